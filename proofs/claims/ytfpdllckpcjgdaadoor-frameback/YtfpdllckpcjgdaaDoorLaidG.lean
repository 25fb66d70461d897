/-
  What the rows' list (three tables of Go's own, the 42 sentinels, frame's three tables) gives, and that the program's own start lays it.
-/
import Derived.Test.YtfpdllckpcjgdaaDoorLaidF0
import Derived.Test.YtfpdllckpcjgdaaDoorFrameWrites
import Derived.Lib.LaidTab
namespace Go.Proofs.YtfpdllckpcjgdaaDoor
open Go.ChangeShapes Go.WideShapes Go.ChangeAt Go.RowKit Go.Lib

/-- an integer's cell -/
theorem int_of_trod {H : Type} {enc : TypeId × Value → H} {P : Program} {w : World} {base : Nat} {sp : Nat → Bool} {held : Bool} {fuel : Nat} {t : TypeId} {k : IntKind} {cs : List Value} {n : Int} {p : List MemPlace}
    (ht : P.underlying t = some (.int k)) (h : DataW.trod enc P w base sp held fuel t cs = some (.lit (.int k n), p)) : cs = [.int k n] := by
  obtain ⟨z, hc, hx, _⟩ := DataW.trod_int ht h
  simp only [Prod.mk.injEq, DataW.lit.injEq, Lit.int.injEq, true_and] at hx
  rw [hc, hx.1]
/-- A TABLE OF PAIRS OF A NUMBER AND A WORD, CELL FOR CELL -/
theorem pairs_of_laid {P : Program} {W : World} {name : String} {ds : List (DataW Unit)} {g : Nat} {t e : TypeId} {n : Nat} {f0 f1 : Field} {k : IntKind} {T : List (Int × List UInt8)}
    (hg : P.globalNamed name = some g) (hty : (P.globals[g]?).map (·.type) = some t) (ht : P.underlying t = some (.array n e)) (he : P.underlying e = some (.struct #[f0, f1])) (h0 : P.underlying f0.type = some (.int k)) (h1 : P.underlying f1.type = some .string)
    (o0 : f0.offset = 0) (o1 : f1.offset = 1) (c0 : P.cellsOf f0.type = 1) (c1 : P.cellsOf f1.type = 1) (hce : P.cellsOf e = 2)
    (hT : ds = T.map fun x => .agg [.lit (.int k x.1), .lit (.string x.2)]) (h : laidMet P [(name, .agg ds)] W) :
    ∀ i, i < T.length → W.cell? ⟨g, i * 2, none⟩ = some (.int k (T.getD i (0, [])).1) ∧ W.cell? ⟨g, i * 2 + 1, none⟩ = some (.string ⟨(T.getD i (0, [])).2.toArray⟩) := by
  obtain ⟨ps, ⟨g', t', cs, fuel, p, q, hg', ht', hvar, hd, _, _⟩, _⟩ := h
  obtain rfl := Option.some.inj (hg.symm.trans hg')
  obtain rfl := Option.some.inj (hty.symm.trans ht')
  intro i hi
  subst hT
  obtain ⟨fu, p1, hh⟩ := arr_of_trod ht hd i (.agg [.lit (.int k T[i].1), .lit (.string T[i].2)]) (by simp [hi])
  obtain ⟨y0, y1, n', hx, _, t0, t1⟩ := trod_struct2 he hh
  simp only [Prod.mk.injEq, DataW.agg.injEq, List.cons.injEq, and_true] at hx
  rw [o0, c0, hce] at t0
  rw [o1, c1, hce] at t1
  have e0 := int_of_trod (n := T[i].1) (p := y0.2) h0 (by rw [t0, hx.1.1])
  have e1 := string_of_trod (b := T[i].2) (p := y1.2) h1 (by rw [t1, hx.1.2])
  have k0 := congrArg (·[0]?) e0
  have k1 := congrArg (·[0]?) e1
  simp only [List.drop_zero, List.getElem?_take, List.getElem?_drop, List.getElem?_cons_zero] at k0 k1
  rw [World.var?_cell hg hvar (i * 2), World.var?_cell hg hvar (i * 2 + 1)]
  have g0 : cs[i * 2]? = some (.int k T[i].1) := by simpa using k0
  have g1 : cs[i * 2 + 1]? = some (.string ⟨T[i].2.toArray⟩) := by simpa using k1
  rw [g0, g1]
  simp [List.getD, hi]

theorem words_met {W : World} (h1 : laidMet Tryd.prog [("internal/strconv.uint64pow10", Rows.laid_internal_strconv_uint64pow10)] W) (h2 : laidMet Tryd.prog [("culvert/frame.typeWords", Rows.laid_culvert_frame_typeWords)] W)
    (h3 : laidMet Tryd.prog [("culvert/frame.flagWords", Rows.laid_culvert_frame_flagWords)] W) : Words W := by
  have d1 : Rows.laid_internal_strconv_uint64pow10 = (Lib.tabData .u64 Lib.pow10Tab : DataW Unit) := by kernel_rfl
  have d2 : Rows.laid_culvert_frame_typeWords = (.agg (wordsT.map fun l => .lit (.string l)) : DataW Unit) := rfl
  have d3 : Rows.laid_culvert_frame_flagWords = (.agg ((List.zip [1, 2, 4, 8] wordsF).map fun x => .agg [.lit (.int .u16 x.1), .lit (.string x.2)]) : DataW Unit) := rfl
  rw [d1] at h1
  rw [d2] at h2
  rw [d3] at h3
  have p1 : Pow10 W := Lib.tabIs_of_head (rest := []) (g := 45) (t := 100) (e := 61) (n := 20) (by kernel_rfl) (by kernel_rfl) Tryd.underlying100 Tryd.underlying61 (by kernel_rfl) (by kernel_rfl) h1
  have p2 := strings_of_laid (g := 6) (t := 59) (e := 9) (n := 4) (by kernel_rfl) (by kernel_rfl) Tryd.underlying59 Tryd.underlying9 (by kernel_rfl) rfl h2
  have p3 := pairs_of_laid (g := 7) (t := 63) (e := 62) (n := 4) (k := .u16) (by kernel_rfl) (by kernel_rfl) Tryd.underlying63 Tryd.underlying62 Tryd.underlying22 Tryd.underlying9 rfl rfl (by kernel_rfl) (by kernel_rfl) (by kernel_rfl) rfl h3
  refine ⟨p2, fun i hi => ?_, fun i hi => ?_, p1⟩
  · have := (p3 i hi).1
    rw [Nat.mul_comm 2 i, this]
    match i, hi with
    | 0, _ => rfl
    | 1, _ => rfl
    | 2, _ => rfl
    | 3, _ => rfl
  · have := (p3 i hi).2
    rw [Nat.mul_comm 2 i, this]
    match i, hi with
    | 0, _ => rfl
    | 1, _ => rfl
    | 2, _ => rfl
    | 3, _ => rfl
theorem met4W {W : World} (h : laidMetH Tryd.prog Rows.frameBackRow.laid W) : ∃ A, At4W A W W := by
  rw [MakeChecks.laidMetH_plain _ _ _ (by kernel_rfl)] at h
  have e : Rows.frameBackRow.laid = [("math/bits.deBruijn32tab", Rows.laid_math_bits_deBruijn32tab), ("math/bits.deBruijn64tab", Rows.laid_math_bits_deBruijn64tab)] ++ ([("internal/strconv.uint64pow10", Rows.laid_internal_strconv_uint64pow10)] ++ (sentList.map (sentRow sentType) ++ ([("culvert/frame.lawful", Rows.laid_culvert_frame_lawful)] ++ ([("culvert/frame.typeWords", Rows.laid_culvert_frame_typeWords)] ++ [("culvert/frame.flagWords", Rows.laid_culvert_frame_flagWords)])))) := by kernel_rfl
  rw [e] at h
  have r1 := laidMet_right h
  have r2 := laidMet_right r1
  have r3 := laidMet_right r2
  have r4 := laidMet_right r3
  obtain ⟨A, hs⟩ := sents_of_laid Tryd.underlying31 sent_row Tryd.underlying107 Tryd.underlying130 rfl rfl Tryd.underlying9 cells_es cells_str sentList codeVars sent_vars sent_types (laidMet_left r2)
  exact ⟨A, ⟨hs, lawful_met (laidMet_left r3), Below.refl _ _⟩, words_met (laidMet_left r1) (laidMet_left r4) (laidMet_right r4)⟩
theorem door4W (os : Os) (args : Array Value) : laidMetH Tryd.prog Rows.frameBackRow.laid ((World.doorLaid Tryd.prog 845 os).forCall (fun _ _ => 0) ⟨#[], args, []⟩).memory :=
  laidMetH_of_parts3 (fuel := 8) (laidMet_of_run' 8 (by kernel_rfl) (by kernel_rfl)) (by kernel_rfl) (by kernel_rfl)
end Go.Proofs.YtfpdllckpcjgdaaDoor
