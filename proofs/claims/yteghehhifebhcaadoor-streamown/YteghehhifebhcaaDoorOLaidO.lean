/-
  What layer 9's rows' lists (ten sentinels and the table) give, and that the program's own start lays them. SET law: a row with the names, law2: one without.
-/
import Derived.Test.YteghehhifebhcaaDoorRows
import Derived.Test.YteghehhifebhcaaDoorOStA
import Derived.Test.YteghehhifebhcaaDoorTabs
import Derived.ProofKit
import Derived.LaidMore
import Derived.OpenShut
import Derived.Stop.Joined
import Derived.MakeChecks
namespace Go.Proofs.YteghehhifebhcaaDoor
open Go.ChangeShapes Go.WideShapes Go.ChangeAt Go.RowKit

theorem own : ownKnob Tryd.prog.godebug = none := by kernel_rfl
theorem laidOut : laidOutB Tryd.prog = true := by kernel_rfl
def nmOf : DataW Unit → String
  | .iface n _ => n
  | _ => ""
def textOf : DataW Unit → List UInt8
  | .iface _ (.ptr (.agg [.lit (.string t)])) => t
  | _ => []
def sentType : String := nmOf Rows.laid_culvert_api_ErrNil
def sentList : List (String × List UInt8) := (Rows.streamOwnRow.laid.take 10).map fun x => (x.1, textOf x.2)
theorem sent_row (u : TypeId) (h : Tryd.prog.typeName? 3 u = some sentType) : u = 156 :=
  typeName_ptr_named (nm := "errors.errorString") (by kernel_rfl) (by kernel_rfl) (by decide) u h
theorem sent_vars : sentList.map (fun x => Tryd.prog.globalNamed x.1) = tenVars.map some := by kernel_rfl
theorem sent_types : ∀ g ∈ tenVars, (Tryd.prog.globals[g]?).map (·.type) = some 30 := by
  have h : (tenVars.all fun g => decide ((Tryd.prog.globals[g]?).map (·.type) = some 30)) = true := by kernel_rfl
  intro g hg
  exact of_decide_eq_true (List.all_eq_true.1 h g hg)
theorem cells_es : Tryd.prog.cellsOf 180 = 1 := by kernel_rfl
theorem cells_str : Tryd.prog.cellsOf 9 = 1 := by kernel_rfl

/-- a number's cell -/
theorem int_of_trod {H : Type} {enc : TypeId × Value → H} {P : Program} {w : World} {base : Nat} {sp : Nat → Bool} {held : Bool} {fuel : Nat} {t : TypeId} {cs : List Value} {k : IntKind} {b : Int} {p : List MemPlace}
    (ht : P.underlying t = some (.int k)) (h : DataW.trod enc P w base sp held fuel t cs = some (.lit (.int k b), p)) : cs = [.int k b] := by
  cases fuel with
  | zero => simp [DataW.trod] at h
  | succ fuel =>
    simp only [DataW.trod, ht] at h
    split at h <;> simp_all
/-- A TABLE OF TABLES OF NUMBERS, CELL FOR CELL -/
theorem ints_of_laid {P : Program} {W : World} {name : String} {ds : List (DataW Unit)} {g : Nat} {t e : TypeId} {n k : Nat} {tb : TypeId} {T : List (List Int)}
    (hg : P.globalNamed name = some g) (hty : (P.globals[g]?).map (·.type) = some t) (ht : P.underlying t = some (.array n e)) (he : P.underlying e = some (.array k tb)) (hb : P.underlying tb = some (.int .i64)) (hcb : P.cellsOf tb = 1) (hce : P.cellsOf e = k)
    (hT : ds = T.map fun l => .agg (l.map fun b => .lit (.int .i64 b))) (hk : ∀ l ∈ T, l.length = k)
    (h : laidMet P [(name, .agg ds)] W) : ∀ i j, i < T.length → j < k → W.cell? ⟨g, i * k + j, none⟩ = some (.int .i64 ((T.getD i []).getD j 0)) := by
  obtain ⟨ps, ⟨g', t', cs, fuel, p, q, hg', ht', hvar, hd, _, _⟩, _⟩ := h
  obtain rfl := Option.some.inj (hg.symm.trans hg')
  obtain rfl := Option.some.inj (hty.symm.trans ht')
  intro i j hi hj
  subst hT
  obtain ⟨f1, p1, h1⟩ := arr_of_trod ht hd i (.agg (T[i].map fun b => .lit (.int .i64 b))) (by simp [hi])
  have hl : T[i].length = k := hk _ (List.getElem_mem hi)
  obtain ⟨f2, p2, h2⟩ := arr_of_trod he h1 j (.lit (.int .i64 (T[i][j]'(by omega)))) (by simp [hl, hj])
  have h3 := int_of_trod hb h2
  rw [World.var?_cell hg hvar (i * k + j)]
  have h4 := congrArg (·[0]?) h3
  simp only [hcb, hce, Nat.mul_one, List.getElem?_take, List.getElem?_drop, List.getElem?_cons_zero] at h4
  have h5 : cs[i * k + j]? = some (.int .i64 (T[i][j]'(by omega))) := by
    have : j < k := hj
    simpa [this] using h4
  rw [h5]
  simp [List.getD, hi, hl, hj]
theorem behind_met {W : World} (h : laidMet Tryd.prog [("culvert/states.behind", Rows.laid_culvert_states_behind)] W) : Behind W := by
  have hd : Rows.laid_culvert_states_behind = (.agg (stTab.map fun l => .agg (l.map fun b => .lit (.int .i64 b))) : DataW Unit) := rfl
  rw [hd] at h
  have := ints_of_laid (P := Tryd.prog) (W := W) (name := "culvert/states.behind") (g := 42) (t := 143) (e := 142) (n := 8) (k := 7) (tb := 68) (T := stTab) (ds := stTab.map fun l => .agg (l.map fun b => .lit (.int .i64 b)))
    (by kernel_rfl) (by kernel_rfl) Tryd.underlying143 Tryd.underlying142 Tryd.underlying68 (by kernel_rfl) (by kernel_rfl) rfl (by decide) h
  intro i j hi hj
  exact this i j hi hj
theorem met9 {W : World} (h : laidMetH Tryd.prog Rows.streamOwnRow.laid W) : ∃ A, St9 A W := by
  rw [MakeChecks.laidMetH_plain _ _ _ (by kernel_rfl)] at h
  have e : Rows.streamOwnRow.laid = sentList.map (sentRow sentType) ++ [("culvert/states.behind", Rows.laid_culvert_states_behind)] := by kernel_rfl
  rw [e] at h
  obtain ⟨A, hs⟩ := sents_of_laid Tryd.underlying30 sent_row Tryd.underlying156 Tryd.underlying180 rfl rfl Tryd.underlying9 cells_es cells_str sentList tenVars sent_vars sent_types (laidMet_left h)
  exact ⟨fun i => A (tenI i), ⟨A, fun _ => rfl, hs⟩, behind_met (laidMet_right h)⟩
theorem door9 (os : Os) (args : Array Value) : laidMetH Tryd.prog Rows.streamOwnRow.laid ((World.doorLaid Tryd.prog 820 os).forCall (fun _ _ => 0) ⟨#[], args, []⟩).memory :=
  laidMetH_of_parts3 (fuel := 8) (laidMet_of_run' 8 (by kernel_rfl) (by kernel_rfl)) (by kernel_rfl) (by kernel_rfl)
end Go.Proofs.YteghehhifebhcaaDoor
