/-
  What layer 14's rows' lists (the 42 sentinels, the table of parities) give, and that the program's own start lays them.
-/
import Derived.Test.YthfedcebbnlmaaaDoorRows
import Derived.Test.YthfedcebbnlmaaaDoorIdA
import Derived.Test.YthfedcebbnlmaaaDoorTabs
import Derived.Lib.SmallJoins
import Derived.ProofKit
import Derived.LaidMore
import Derived.OpenShut
import Derived.Stop.Joined
import Derived.MakeChecks
namespace Go.Proofs.YthfedcebbnlmaaaDoor
open Go.ChangeShapes Go.WideShapes Go.ChangeAt Go.RowKit

theorem own : ownKnob Tryd.prog.godebug = none := by kernel_rfl
theorem laidOut : laidOutB Tryd.prog = true := by kernel_rfl
def nmOf : DataW Unit → String
  | .iface n _ => n
  | _ => ""
def textOf : DataW Unit → List UInt8
  | .iface _ (.ptr (.agg [.lit (.string t)])) => t
  | _ => []
def sentType : String := nmOf Rows.laid_culvert_api_ErrNil
def sentList : List (String × List UInt8) := (Rows.idsNamesRow.laid.take 42).map fun x => (x.1, textOf x.2)
theorem sent_row (u : TypeId) (h : Tryd.prog.typeName? 3 u = some sentType) : u = 82 :=
  typeName_ptr_named (nm := "errors.errorString") (by kernel_rfl) (by kernel_rfl) (by decide) u h
theorem sent_vars : sentList.map (fun x => Tryd.prog.globalNamed x.1) = codeVars.map some := by kernel_rfl
theorem sent_types : ∀ g ∈ codeVars, (Tryd.prog.globals[g]?).map (·.type) = some 24 := by
  have h : (codeVars.all fun g => decide ((Tryd.prog.globals[g]?).map (·.type) = some 24)) = true := by kernel_rfl
  intro g hg
  exact of_decide_eq_true (List.all_eq_true.1 h g hg)
theorem cells_es : Tryd.prog.cellsOf 106 = 1 := by kernel_rfl
theorem cells_str : Tryd.prog.cellsOf 9 = 1 := by kernel_rfl

theorem int_of_trod {H : Type} {enc : TypeId × Value → H} {P : Program} {w : World} {base : Nat} {sp : Nat → Bool} {held : Bool} {fuel : Nat} {t : TypeId} {cs : List Value} {k : IntKind} {b : Int} {p : List MemPlace}
    (ht : P.underlying t = some (.int k)) (h : DataW.trod enc P w base sp held fuel t cs = some (.lit (.int k b), p)) : cs = [.int k b] := by
  cases fuel with
  | zero => simp [DataW.trod] at h
  | succ fuel =>
    simp only [DataW.trod, ht] at h
    split at h <;> simp_all
theorem one_cell {cs : List Value} {o j k : Nat} {v : Value} (hj : j < k) (h : ((((cs.drop o).take k).drop j).take 1) = [v]) : cs[o + j]? = some v := by
  have h4 := congrArg (·[0]?) h
  simp only [List.getElem?_take, List.getElem?_drop, List.getElem?_cons_zero] at h4
  simpa [hj] using h4
theorem trod_struct2' {H : Type} {enc : TypeId × Value → H} {w : World} {base : Nat} {spare : Nat → Bool} {held : Bool} {P : Program} {t : TypeId} {f0 f1 : Field} {fuel : Nat} {cs : List Value} {x : DataW H × List MemPlace} (ht : P.underlying t = some (.struct #[f0, f1])) (h : DataW.trod enc P w base spare held fuel t cs = some x) :
    ∃ y0 y1 n, x.1 = .agg [y0.1, y1.1] ∧ DataW.trod enc P w base spare held n f0.type ((cs.drop f0.offset).take (P.cellsOf f0.type)) = some y0 ∧ DataW.trod enc P w base spare held n f1.type ((cs.drop f1.offset).take (P.cellsOf f1.type)) = some y1 := by
  obtain ⟨xs, n, _, rfl, hl, hlen, hf⟩ := DataW.trod_struct ht h
  match xs, hlen with
  | [y0, y1], _ => exact ⟨y0, y1, n, rfl, by simpa using hf 0 f0 rfl, by simpa using hf 1 f1 rfl⟩
def parD (a b : Int) : DataW Unit := .agg [.lit (.int .i64 a), .lit (.int .i64 b)]
set_option maxRecDepth 20000 in
theorem par_met {W : World} (h : laidMet Tryd.prog [("culvert/ids.parities", Rows.laid_culvert_ids_parities)] W) : Par W := by
  have hd : Rows.laid_culvert_ids_parities = .agg [parD 2 4294967294, parD 1 4294967295] := rfl
  rw [hd] at h
  obtain ⟨ps, ⟨g', t', cs, fuel, p, q, hg', ht', hvar, hd, _, _⟩, _⟩ := h
  have hg : Tryd.prog.globalNamed "culvert/ids.parities" = some 1 := by kernel_rfl
  have hty : (Tryd.prog.globals[1]?).map (·.type) = some 62 := by kernel_rfl
  obtain rfl := Option.some.inj (hg.symm.trans hg')
  obtain rfl := Option.some.inj (hty.symm.trans ht')
  have hce : Tryd.prog.cellsOf 61 = 2 := by kernel_rfl
  have ci : Tryd.prog.cellsOf 3 = 1 := by kernel_rfl
  have c := fun j => World.var?_cell hg hvar j
  have K : ∀ n a b, [parD 2 4294967294, parD 1 4294967295][n]? = some (parD a b) → W.cell? ⟨1, n * 2 + 0, none⟩ = some (.int .i64 a) ∧ W.cell? ⟨1, n * 2 + 1, none⟩ = some (.int .i64 b) := by
    intro n a b hn
    obtain ⟨f1, p1, h1⟩ := arr_of_trod Tryd.underlying62 hd n (parD a b) hn
    rw [hce] at h1
    obtain ⟨⟨y0, z0⟩, ⟨y1, z1⟩, m, hx, q0, q1⟩ := trod_struct2' Tryd.underlying61 h1
    simp only [ci] at q0 q1
    simp only [parD, DataW.agg.injEq, List.cons.injEq, and_true] at hx
    obtain ⟨e0, e1⟩ := hx
    subst e0 e1
    refine ⟨?_, ?_⟩
    · rw [c, ← Array.getElem?_toList]
      exact one_cell (by decide) (int_of_trod Tryd.underlying3 q0)
    · rw [c, ← Array.getElem?_toList]
      exact one_cell (by decide) (int_of_trod Tryd.underlying3 q1)
  exact ⟨(K 0 _ _ rfl).1, (K 0 _ _ rfl).2, (K 1 _ _ rfl).1, (K 1 _ _ rfl).2⟩
theorem met14 {W : World} (h : laidMetH Tryd.prog Rows.idsNamesRow.laid W) : ∃ A, St14 A W := by
  rw [MakeChecks.laidMetH_plain _ _ _ (by kernel_rfl)] at h
  have e : Rows.idsNamesRow.laid = sentList.map (sentRow sentType) ++ [("culvert/ids.parities", Rows.laid_culvert_ids_parities)] := by kernel_rfl
  rw [e] at h
  obtain ⟨A, hs⟩ := sents_of_laid Tryd.underlying24 sent_row Tryd.underlying82 Tryd.underlying106 rfl rfl Tryd.underlying9 cells_es cells_str sentList codeVars sent_vars sent_types (laidMet_left h)
  exact ⟨A, hs, par_met (laidMet_right h)⟩
theorem door14 (os : Os) (args : Array Value) : laidMetH Tryd.prog Rows.idsNamesRow.laid ((World.doorLaid Tryd.prog 814 os).forCall (fun _ _ => 0) ⟨#[], args, []⟩).memory :=
  laidMetH_of_parts3 (fuel := 8) (laidMet_of_run' 8 (by kernel_rfl) (by kernel_rfl)) (by kernel_rfl) (by kernel_rfl)
end Go.Proofs.YthfedcebbnlmaaaDoor
