/-
  What layer 11's rows' lists (the 42 sentinels, the table of shapes) give, and that the program's own start lays them.
-/
import Derived.Test.YtialmmobkmdfpaaDoorRows
import Derived.Test.YtialmmobkmdfpaaDoorLnA
import Derived.Test.YtialmmobkmdfpaaDoorTabs
import Derived.Lib.SmallJoins
import Derived.ProofKit
import Derived.LaidMore
import Derived.OpenShut
import Derived.Stop.Joined
import Derived.MakeChecks
namespace Go.Proofs.YtialmmobkmdfpaaDoor
open Go.ChangeShapes Go.WideShapes Go.ChangeAt Go.RowKit

theorem own : ownKnob Tryd.prog.godebug = none := by kernel_rfl
theorem laidOut : laidOutB Tryd.prog = true := by kernel_rfl
def nmOf : DataW Unit → String
  | .iface n _ => n
  | _ => ""
def textOf : DataW Unit → List UInt8
  | .iface _ (.ptr (.agg [.lit (.string t)])) => t
  | _ => []
def sentType : String := nmOf Rows.laid_culvert_api_ErrNil
def sentList : List (String × List UInt8) := (Rows.laneAnswersRow.laid.take 42).map fun x => (x.1, textOf x.2)
theorem sent_row (u : TypeId) (h : Tryd.prog.typeName? 3 u = some sentType) : u = 134 :=
  typeName_ptr_named (nm := "errors.errorString") (by kernel_rfl) (by kernel_rfl) (by decide) u h
theorem sent_vars : sentList.map (fun x => Tryd.prog.globalNamed x.1) = codeVars.map some := by kernel_rfl
theorem sent_types : ∀ g ∈ codeVars, (Tryd.prog.globals[g]?).map (·.type) = some 42 := by
  have h : (codeVars.all fun g => decide ((Tryd.prog.globals[g]?).map (·.type) = some 42)) = true := by kernel_rfl
  intro g hg
  exact of_decide_eq_true (List.all_eq_true.1 h g hg)
theorem cells_es : Tryd.prog.cellsOf 158 = 1 := by kernel_rfl
theorem cells_str : Tryd.prog.cellsOf 9 = 1 := by kernel_rfl

theorem int_of_trod {H : Type} {enc : TypeId × Value → H} {P : Program} {w : World} {base : Nat} {sp : Nat → Bool} {held : Bool} {fuel : Nat} {t : TypeId} {cs : List Value} {k : IntKind} {b : Int} {p : List MemPlace}
    (ht : P.underlying t = some (.int k)) (h : DataW.trod enc P w base sp held fuel t cs = some (.lit (.int k b), p)) : cs = [.int k b] := by
  cases fuel with
  | zero => simp [DataW.trod] at h
  | succ fuel =>
    simp only [DataW.trod, ht] at h
    split at h <;> simp_all
theorem one_cell {cs : List Value} {o j k : Nat} {v : Value} (hj : j < k) (h : ((((cs.drop o).take k).drop j).take 1) = [v]) : cs[o + j]? = some v := by
  have h4 := congrArg (·[0]?) h
  simp only [List.getElem?_take, List.getElem?_drop, List.getElem?_cons_zero] at h4
  simpa [hj] using h4
theorem trod_struct6' {H : Type} {enc : TypeId × Value → H} {w : World} {base : Nat} {spare : Nat → Bool} {held : Bool} {P : Program} {t : TypeId} {f0 f1 f2 f3 f4 f5 : Field} {fuel : Nat} {cs : List Value} {x : DataW H × List MemPlace} (ht : P.underlying t = some (.struct #[f0, f1, f2, f3, f4, f5])) (h : DataW.trod enc P w base spare held fuel t cs = some x) :
    ∃ y0 y1 y2 y3 y4 y5 n, x.1 = .agg [y0.1, y1.1, y2.1, y3.1, y4.1, y5.1] ∧ DataW.trod enc P w base spare held n f0.type ((cs.drop f0.offset).take (P.cellsOf f0.type)) = some y0 ∧ DataW.trod enc P w base spare held n f1.type ((cs.drop f1.offset).take (P.cellsOf f1.type)) = some y1 ∧ DataW.trod enc P w base spare held n f2.type ((cs.drop f2.offset).take (P.cellsOf f2.type)) = some y2 ∧ DataW.trod enc P w base spare held n f3.type ((cs.drop f3.offset).take (P.cellsOf f3.type)) = some y3 ∧ DataW.trod enc P w base spare held n f4.type ((cs.drop f4.offset).take (P.cellsOf f4.type)) = some y4 ∧ DataW.trod enc P w base spare held n f5.type ((cs.drop f5.offset).take (P.cellsOf f5.type)) = some y5 := by
  obtain ⟨xs, n, _, rfl, hl, hlen, hf⟩ := DataW.trod_struct ht h
  match xs, hlen with
  | [y0, y1, y2, y3, y4, y5], _ => exact ⟨y0, y1, y2, y3, y4, y5, n, rfl, by simpa using hf 0 f0 rfl, by simpa using hf 1 f1 rfl, by simpa using hf 2 f2 rfl, by simpa using hf 3 f3 rfl, by simpa using hf 4 f4 rfl, by simpa using hf 5 f5 rfl⟩
def shD (n : Nat) : DataW Unit := .agg [.lit (.int .u8 (shF n)), .lit (.int .u16 (shG n)), .lit (.bool (shO n)), .lit (.int .u32 (shL n)), .lit (.int .u32 (shM n)), .lit (.bool (shS n))]
set_option maxRecDepth 20000 in
theorem shapes_met {W : World} (h : laidMet Tryd.prog [("culvert/lane.shapes", Rows.laid_culvert_lane_shapes)] W) : Shapes W := by
  have hd : Rows.laid_culvert_lane_shapes = .agg ((List.range 8).map shD) := rfl
  rw [hd] at h
  obtain ⟨ps, ⟨g', t', cs, fuel, p, q, hg', ht', hvar, hd, _, _⟩, _⟩ := h
  have hg : Tryd.prog.globalNamed "culvert/lane.shapes" = some 2 := by kernel_rfl
  have hty : (Tryd.prog.globals[2]?).map (·.type) = some 94 := by kernel_rfl
  obtain rfl := Option.some.inj (hg.symm.trans hg')
  obtain rfl := Option.some.inj (hty.symm.trans ht')
  intro n hn
  have hce : Tryd.prog.cellsOf 93 = 6 := by kernel_rfl
  have cu8 : Tryd.prog.cellsOf 5 = 1 := by kernel_rfl
  have cu16 : Tryd.prog.cellsOf 50 = 1 := by kernel_rfl
  have cu32 : Tryd.prog.cellsOf 28 = 1 := by kernel_rfl
  have cb : Tryd.prog.cellsOf 4 = 1 := by kernel_rfl
  obtain ⟨f1, p1, h1⟩ := arr_of_trod Tryd.underlying94 hd n (shD n) (by simp [hn])
  rw [hce] at h1
  obtain ⟨⟨y0, z0⟩, ⟨y1, z1⟩, ⟨y2, z2⟩, ⟨y3, z3⟩, ⟨y4, z4⟩, ⟨y5, z5⟩, m, hx, q0, q1, q2, q3, q4, q5⟩ := trod_struct6' Tryd.underlying93 h1
  simp only [cu8, cu16, cu32, cb] at q0 q1 q2 q3 q4 q5
  simp only [shD, DataW.agg.injEq, List.cons.injEq, and_true] at hx
  obtain ⟨e0, e1, e2, e3, e4, e5⟩ := hx
  subst e0 e1 e2 e3 e4 e5
  have c := fun j => World.var?_cell hg hvar j
  refine ⟨?_, ?_, ?_, ?_, ?_, ?_⟩
  · have := one_cell (by decide) (int_of_trod Tryd.underlying5 q0)
    rw [Nat.add_zero] at this
    rw [c, ← Array.getElem?_toList]
    exact this
  · rw [c, ← Array.getElem?_toList]
    exact one_cell (by decide) (int_of_trod Tryd.underlying50 q1)
  · rw [c, ← Array.getElem?_toList]
    exact one_cell (by decide) (bool_of_trod Tryd.underlying4 q2)
  · rw [c, ← Array.getElem?_toList]
    exact one_cell (by decide) (int_of_trod Tryd.underlying28 q3)
  · rw [c, ← Array.getElem?_toList]
    exact one_cell (by decide) (int_of_trod Tryd.underlying28 q4)
  · rw [c, ← Array.getElem?_toList]
    exact one_cell (by decide) (bool_of_trod Tryd.underlying4 q5)
theorem met11 {W : World} (h : laidMetH Tryd.prog Rows.laneAnswersRow.laid W) : ∃ A, St11 A W := by
  rw [MakeChecks.laidMetH_plain _ _ _ (by kernel_rfl)] at h
  have e : Rows.laneAnswersRow.laid = sentList.map (sentRow sentType) ++ [("culvert/lane.shapes", Rows.laid_culvert_lane_shapes)] := by kernel_rfl
  rw [e] at h
  obtain ⟨A, hs⟩ := sents_of_laid Tryd.underlying42 sent_row Tryd.underlying134 Tryd.underlying158 rfl rfl Tryd.underlying9 cells_es cells_str sentList codeVars sent_vars sent_types (laidMet_left h)
  exact ⟨A, hs, shapes_met (laidMet_right h)⟩
theorem door11 (os : Os) (args : Array Value) : laidMetH Tryd.prog Rows.laneAnswersRow.laid ((World.doorLaid Tryd.prog 828 os).forCall (fun _ _ => 0) ⟨#[], args, []⟩).memory :=
  laidMetH_of_parts3 (fuel := 8) (laidMet_of_run' 8 (by kernel_rfl) (by kernel_rfl)) (by kernel_rfl) (by kernel_rfl)
end Go.Proofs.YtialmmobkmdfpaaDoor
