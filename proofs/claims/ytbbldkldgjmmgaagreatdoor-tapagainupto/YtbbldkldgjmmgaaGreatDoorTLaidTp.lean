/-
  What the rows' list of law 26 (Go's own tables, the handle of 'error', ten sentinels and strconv's two, frame's three tables) gives, and that the program's own start lays it.
-/
import Derived.Test.YtbbldkldgjmmgaaGreatDoorRows
import Derived.Test.YtbbldkldgjmmgaaGreatDoorTTpZ
import Derived.ProofKit
import Derived.LaidMore
import Derived.LaidHandle
import Derived.OpenShut
import Derived.Stop.Joined
import Derived.MakeChecks
import Derived.Lib.LaidTab
import Derived.Lay
namespace Go.Proofs.YtbbldkldgjmmgaaGreatDoor
open Go.ChangeShapes Go.WideShapes Go.ChangeAt Go.RowKit Go.Lib

theorem own : ownKnob Tryz.prog.godebug = none := by kernel_rfl
theorem laidOut : laidOutB Tryz.prog = true := by kernel_rfl
/-- the name of the sentinels' type, and each one's text, off the given row itself -/
def nmOfH : DataW Unit → String
  | .iface n _ => n
  | _ => ""
def textOfH : DataW Unit → List UInt8
  | .iface _ (.ptr (.agg [.lit (.string t)])) => t
  | _ => []
def sentTypeH : String := nmOfH Rows.laid_culvert_api_ErrNil
def sentListH : List (String × List UInt8) := ((Rows.tapAgainRow.laid.drop 5).take 10).map fun x => (x.1, textOfH x.2)
theorem sent_rowH (u : TypeId) (h : Tryz.prog.typeName? 3 u = some sentTypeH) : u = 204 :=
  typeName_ptr_named (nm := "errors.errorString") (by kernel_rfl) (by kernel_rfl) (by decide) u h
theorem sent_varsH : sentListH.map (fun x => Tryz.prog.globalNamed x.1) = tenVars.map some := by kernel_rfl
theorem sent_typesH : ∀ g ∈ tenVars, (Tryz.prog.globals[g]?).map (·.type) = some 25 := by
  have h : (tenVars.all fun g => decide ((Tryz.prog.globals[g]?).map (·.type) = some 25)) = true := by kernel_rfl
  intro g hg
  exact of_decide_eq_true (List.all_eq_true.1 h g hg)
theorem cells_esH : Tryz.prog.cellsOf 206 = 1 := by kernel_rfl
theorem cells_strH : Tryz.prog.cellsOf 9 = 1 := by kernel_rfl
theorem lawful_metH {W : World} (h : laidMet Tryz.prog [("culvert/frame.lawful", Rows.laid_culvert_frame_lawful)] W) : Lawful W := by
  have hd : Rows.laid_culvert_frame_lawful = (.agg (lawfulTab.map fun l => .agg (l.map fun b => .lit (.bool b))) : DataW Unit) := rfl
  rw [hd] at h
  have := bools_of_laid (P := Tryz.prog) (W := W) (name := "culvert/frame.lawful") (g := 7) (t := 89) (e := 88) (n := 4) (k := 16) (tb := 4) (T := lawfulTab) (ds := lawfulTab.map fun l => .agg (l.map fun b => .lit (.bool b)))
    (by kernel_rfl) (by kernel_rfl) Tryz.underlying89 Tryz.underlying88 Tryz.underlying4 (by kernel_rfl) (by kernel_rfl) rfl (by decide) h
  intro i j hi hj
  exact this i j hi hj
theorem et_var : Tryz.prog.globalNamed "errors.errorType" = some 12 := by kernel_rfl
theorem rt_type : (Tryz.prog.cutTypes.find? (·.1 == "internal/reflectlite.rtype")).map (·.2) = some 158 := by kernel_rfl
theorem types_size : Tryz.prog.types.size = 235 := by kernel_rfl
theorem error_row : ((List.range 235).filter fun t => Tryz.prog.rowNamed t [101, 114, 114, 111, 114]) = [25] := by kernel_rfl
/-- the handle that the list tells of -/
theorem errTy_met {W : World} (h : handlesMet Tryz.prog [("errors.errorType", Rows.laid_errors_errorType)] W) : ErrTy W := by
  obtain ⟨name, u, ty, e1, e2, e3, e4, e5⟩ := h _ (List.mem_singleton.2 rfl)
  have en : name = [101, 114, 114, 111, 114] := (Option.some.inj e1).symm
  subst en
  obtain rfl := Option.some.inj (rt_type.symm.trans e2)
  have hm : ty ∈ (List.range 235).filter fun t => Tryz.prog.rowNamed t [101, 114, 114, 111, 114] := List.mem_filter.2 ⟨List.mem_range.2 (by rw [← types_size]; exact e3), e4⟩
  rw [error_row] at hm
  obtain rfl := List.mem_singleton.1 hm
  have hh : typeHandle Tryz.prog 25 = .pointer (some ⟨23, 25, none⟩) := by kernel_rfl
  rw [hh] at e5
  simpa [ErrTy] using World.var?_cell et_var e5 0
/-- an integer's cell -/
theorem int_of_trod {H : Type} {enc : TypeId × Value → H} {P : Program} {w : World} {base : Nat} {sp : Nat → Bool} {held : Bool} {fuel : Nat} {t : TypeId} {k : IntKind} {cs : List Value} {n : Int} {p : List MemPlace}
    (ht : P.underlying t = some (.int k)) (h : DataW.trod enc P w base sp held fuel t cs = some (.lit (.int k n), p)) : cs = [.int k n] := by
  obtain ⟨z, hc, hx, _⟩ := DataW.trod_int ht h
  simp only [Prod.mk.injEq, DataW.lit.injEq, Lit.int.injEq, true_and] at hx
  rw [hc, hx.1]
/-- A TABLE OF PAIRS OF A NUMBER AND A WORD, CELL FOR CELL -/
theorem pairs_of_laid {P : Program} {W : World} {name : String} {ds : List (DataW Unit)} {g : Nat} {t e : TypeId} {n : Nat} {f0 f1 : Field} {k : IntKind} {T : List (Int × List UInt8)}
    (hg : P.globalNamed name = some g) (hty : (P.globals[g]?).map (·.type) = some t) (ht : P.underlying t = some (.array n e)) (he : P.underlying e = some (.struct #[f0, f1])) (h0 : P.underlying f0.type = some (.int k)) (h1 : P.underlying f1.type = some .string)
    (o0 : f0.offset = 0) (o1 : f1.offset = 1) (c0 : P.cellsOf f0.type = 1) (c1 : P.cellsOf f1.type = 1) (hce : P.cellsOf e = 2)
    (hT : ds = T.map fun x => .agg [.lit (.int k x.1), .lit (.string x.2)]) (h : laidMet P [(name, .agg ds)] W) :
    ∀ i, i < T.length → W.cell? ⟨g, i * 2, none⟩ = some (.int k (T.getD i (0, [])).1) ∧ W.cell? ⟨g, i * 2 + 1, none⟩ = some (.string ⟨(T.getD i (0, [])).2.toArray⟩) := by
  obtain ⟨ps, ⟨g', t', cs, fuel, p, q, hg', ht', hvar, hd, _, _⟩, _⟩ := h
  obtain rfl := Option.some.inj (hg.symm.trans hg')
  obtain rfl := Option.some.inj (hty.symm.trans ht')
  intro i hi
  subst hT
  obtain ⟨fu, p1, hh⟩ := arr_of_trod ht hd i (.agg [.lit (.int k T[i].1), .lit (.string T[i].2)]) (by simp [hi])
  obtain ⟨y0, y1, n', hx, _, t0, t1⟩ := trod_struct2 he hh
  simp only [Prod.mk.injEq, DataW.agg.injEq, List.cons.injEq, and_true] at hx
  rw [o0, c0, hce] at t0
  rw [o1, c1, hce] at t1
  have e0 := int_of_trod (n := T[i].1) (p := y0.2) h0 (by rw [t0, hx.1.1])
  have e1 := string_of_trod (b := T[i].2) (p := y1.2) h1 (by rw [t1, hx.1.2])
  have k0 := congrArg (·[0]?) e0
  have k1 := congrArg (·[0]?) e1
  simp only [List.drop_zero, List.getElem?_take, List.getElem?_drop, List.getElem?_cons_zero] at k0 k1
  rw [World.var?_cell hg hvar (i * 2), World.var?_cell hg hvar (i * 2 + 1)]
  have g0 : cs[i * 2]? = some (.int k T[i].1) := by simpa using k0
  have g1 : cs[i * 2 + 1]? = some (.string ⟨T[i].2.toArray⟩) := by simpa using k1
  rw [g0, g1]
  simp [List.getD, hi]

theorem words_met {W : World} (h1 : laidMet Tryz.prog [("internal/strconv.uint64pow10", Rows.laid_internal_strconv_uint64pow10)] W) (h2 : laidMet Tryz.prog [("culvert/frame.typeWords", Rows.laid_culvert_frame_typeWords)] W)
    (h3 : laidMet Tryz.prog [("culvert/frame.flagWords", Rows.laid_culvert_frame_flagWords)] W) : Words W := by
  have d1 : Rows.laid_internal_strconv_uint64pow10 = (Lib.tabData .u64 Lib.pow10Tab : DataW Unit) := by kernel_rfl
  have d2 : Rows.laid_culvert_frame_typeWords = (.agg (wordsT.map fun l => .lit (.string l)) : DataW Unit) := rfl
  have d3 : Rows.laid_culvert_frame_flagWords = (.agg ((List.zip [1, 2, 4, 8] wordsF).map fun x => .agg [.lit (.int .u16 x.1), .lit (.string x.2)]) : DataW Unit) := rfl
  rw [d1] at h1
  rw [d2] at h2
  rw [d3] at h3
  have p1 : Pow10 W := Lib.tabIs_of_head (rest := []) (g := 17) (t := 197) (e := 108) (n := 20) (by kernel_rfl) (by kernel_rfl) Tryz.underlying197 Tryz.underlying108 (by kernel_rfl) (by kernel_rfl) h1
  have p2 := strings_of_laid (g := 10) (t := 110) (e := 9) (n := 4) (by kernel_rfl) (by kernel_rfl) Tryz.underlying110 Tryz.underlying9 (by kernel_rfl) rfl h2
  have p3 := pairs_of_laid (g := 11) (t := 112) (e := 111) (n := 4) (k := .u16) (by kernel_rfl) (by kernel_rfl) Tryz.underlying112 Tryz.underlying111 Tryz.underlying28 Tryz.underlying9 rfl rfl (by kernel_rfl) (by kernel_rfl) (by kernel_rfl) rfl h3
  refine ⟨p2, fun i hi => ?_, fun i hi => ?_, p1⟩
  · have := (p3 i hi).1
    rw [Nat.mul_comm 2 i, this]
    match i, hi with
    | 0, _ => rfl
    | 1, _ => rfl
    | 2, _ => rfl
    | 3, _ => rfl
  · have := (p3 i hi).2
    rw [Nat.mul_comm 2 i, this]
    match i, hi with
    | 0, _ => rfl
    | 1, _ => rfl
    | 2, _ => rfl
    | 3, _ => rfl
abbrev laidLo : List (String × DataW Unit) := [("math/bits.deBruijn32tab", Rows.laid_math_bits_deBruijn32tab), ("math/bits.deBruijn64tab", Rows.laid_math_bits_deBruijn64tab)]
abbrev laidHi : List (String × DataW Unit) := [("strconv.ErrRange", Rows.laid_strconv_ErrRange), ("strconv.ErrSyntax", Rows.laid_strconv_ErrSyntax)]
theorem metT {W : World} (h : laidMetH Tryz.prog Rows.tapAgainRow.laid W) : ∃ A, BaseW A W := by
  have hf : Rows.tapAgainRow.laid.filter (fun x => x.2.handleName?.isSome) = [("errors.errorType", Rows.laid_errors_errorType)] := by kernel_rfl
  have hn : Rows.tapAgainRow.laid.filter (fun x => x.2.handleName?.isNone) = laidLo ++ ([("internal/strconv.uint64pow10", Rows.laid_internal_strconv_uint64pow10)] ++ ([("unicode/utf8.acceptRanges", Rows.laid_unicode_utf8_acceptRanges)] ++ (sentListH.map (sentRow sentTypeH) ++ (laidHi ++ ([("culvert/frame.lawful", Rows.laid_culvert_frame_lawful)] ++ ([("culvert/frame.typeWords", Rows.laid_culvert_frame_typeWords)] ++ ([("culvert/frame.flagWords", Rows.laid_culvert_frame_flagWords)] ++ [("unicode/utf8.first", Rows.laid_unicode_utf8_first)]))))))) := by kernel_rfl
  have h' : laidMet Tryz.prog (laidLo ++ ([("internal/strconv.uint64pow10", Rows.laid_internal_strconv_uint64pow10)] ++ ([("unicode/utf8.acceptRanges", Rows.laid_unicode_utf8_acceptRanges)] ++ (sentListH.map (sentRow sentTypeH) ++ (laidHi ++ ([("culvert/frame.lawful", Rows.laid_culvert_frame_lawful)] ++ ([("culvert/frame.typeWords", Rows.laid_culvert_frame_typeWords)] ++ ([("culvert/frame.flagWords", Rows.laid_culvert_frame_flagWords)] ++ [("unicode/utf8.first", Rows.laid_unicode_utf8_first)])))))))) W ∧ handlesMet Tryz.prog [("errors.errorType", Rows.laid_errors_errorType)] W := by
    unfold laidMetH at h
    rw [hf, hn] at h
    exact h
  have r1 := laidMet_right h'.1
  have r3 := laidMet_right (laidMet_right r1)
  have r4 := laidMet_right (laidMet_right r3)
  have r5 := laidMet_right r4
  obtain ⟨A, hs⟩ := sents_of_laid Tryz.underlying25 sent_rowH Tryz.underlying204 Tryz.underlying206 rfl rfl Tryz.underlying9 cells_esH cells_strH sentListH tenVars sent_varsH sent_typesH (laidMet_left r3)
  exact ⟨fun i => A (tenI i), ⟨⟨A, fun _ => rfl, hs⟩, lawful_metH (laidMet_left r4), errTy_met h'.2⟩, words_met (laidMet_left r1) (laidMet_left r5) (laidMet_left (laidMet_right r5))⟩
theorem doorT (os : Os) (args : Array Value) : laidMetH Tryz.prog Rows.tapAgainRow.laid ((World.layVars Tryz.prog (World.doorLaid Tryz.prog 311 os) [("unicode/utf8.first", Rows.laid_unicode_utf8_first)]).forCall (fun _ _ => 0) ⟨#[], args, []⟩).memory :=
  laidMetH_of_parts3 (fuel := 8) (laidMet_of_run' 8 (by kernel_rfl) (by kernel_rfl)) (by kernel_rfl) (by kernel_rfl)
end Go.Proofs.YtbbldkldgjmmgaaGreatDoor
