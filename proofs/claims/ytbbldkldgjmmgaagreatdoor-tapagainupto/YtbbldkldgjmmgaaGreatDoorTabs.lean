/-
  Listed variables in parts, and tables of literals: what the cells of a listed table hold. Of whatever program.
-/
import Derived.Stop.LaidErr
import Derived.Stop.Joined
import Derived.Below
import Derived.Lib.LaidTab
import Derived.Test.YtbbldkldgjmmgaaGreatDoorSents
namespace Go.Proofs.YtbbldkldgjmmgaaGreatDoor
open Go Go.RowKit Go.Lib

/-- a listed variable's cells -/
theorem laid_split {P : Program} {W : World} : ∀ (L M : List (String × DataW Unit)) (ps : List MemPlace), DataW.LaidVars P W (L ++ M) ps →
    ∃ p q, ps = p ++ q ∧ DataW.LaidVars P W L p ∧ DataW.LaidVars P W M q := by
  intro L
  induction L with
  | nil => intro M ps h; exact ⟨[], ps, rfl, rfl, h⟩
  | cons x L ih =>
    intro M ps h
    obtain ⟨g, t, cs, fuel, p, q, hg, ht, hv, hd, hq, rfl⟩ := h
    obtain ⟨p1, q1, rfl, h1, h2⟩ := ih M q hq
    exact ⟨MemPlace.row ⟨g, 0, none⟩ cs.size ++ p ++ p1, q1, by simp [List.append_assoc], ⟨g, t, cs, fuel, p, p1, hg, ht, hv, hd, h1, rfl⟩, h2⟩

/-- laidMet in parts -/
theorem laidMet_left {P : Program} {W : World} {L M : List (String × DataW Unit)} (h : laidMet P (L ++ M) W) : laidMet P L W := by
  obtain ⟨ps, hV, hnd, hr⟩ := h
  obtain ⟨p, q, rfl, h1, _⟩ := laid_split L M ps hV
  exact ⟨p, h1, List.Nodup.sublist (List.sublist_append_left _ _) hnd, fun b off hm => hr b off (by simp [hm])⟩
theorem laidMet_right {P : Program} {W : World} {L M : List (String × DataW Unit)} (h : laidMet P (L ++ M) W) : laidMet P M W := by
  obtain ⟨ps, hV, hnd, hr⟩ := h
  obtain ⟨p, q, rfl, _, h2⟩ := laid_split L M ps hV
  exact ⟨q, h2, List.Nodup.sublist (List.sublist_append_right _ _) hnd, fun b off hm => hr b off (by simp [hm])⟩

/-- an array's parts -/
theorem arr_of_trod {H : Type} {enc : TypeId × Value → H} {P : Program} {w : World} {base : Nat} {sp : Nat → Bool} {held : Bool} {fuel : Nat} {t e : TypeId} {n : Nat} {cs : List Value} {ds : List (DataW H)} {p : List MemPlace}
    (ht : P.underlying t = some (.array n e)) (h : DataW.trod enc P w base sp held fuel t cs = some (.agg ds, p)) :
    ∀ i d, ds[i]? = some d → ∃ fuel' p', DataW.trod enc P w base sp held fuel' e ((cs.drop (i * P.cellsOf e)).take (P.cellsOf e)) = some (d, p') := by
  cases fuel with
  | zero => simp [DataW.trod] at h
  | succ fuel =>
    simp only [DataW.trod, ht] at h
    split at h
    · obtain ⟨xs, hm, hx⟩ := Option.map_eq_some_iff.1 h
      have hds : xs.map (·.1) = ds := by
        have := congrArg Prod.fst hx
        simpa using this
      intro i d hd
      subst hds
      have hxl : xs.length = n := by simpa using mapM_length hm
      have hi : i < n := by
        rw [← hxl]
        have := (List.getElem?_eq_some_iff.1 hd).1
        simpa using this
      obtain ⟨b, hb, hf⟩ := mapM_at hm i i (by simp [hi])
      have : b.1 = d := by simpa [hb] using hd
      exact ⟨fuel, b.2, by rw [hf, ← this]⟩
    · cases h

/-- a bool's cell -/
theorem bool_of_trod {H : Type} {enc : TypeId × Value → H} {P : Program} {w : World} {base : Nat} {sp : Nat → Bool} {held : Bool} {fuel : Nat} {t : TypeId} {cs : List Value} {b : Bool} {p : List MemPlace}
    (ht : P.underlying t = some .bool) (h : DataW.trod enc P w base sp held fuel t cs = some (.lit (.bool b), p)) : cs = [.bool b] := by
  cases fuel with
  | zero => simp [DataW.trod] at h
  | succ fuel =>
    simp only [DataW.trod, ht] at h
    split at h <;> simp_all

/-- a string's cell -/
theorem string_of_trod {H : Type} {enc : TypeId × Value → H} {P : Program} {w : World} {base : Nat} {sp : Nat → Bool} {held : Bool} {fuel : Nat} {t : TypeId} {cs : List Value} {b : List UInt8} {p : List MemPlace}
    (ht : P.underlying t = some .string) (h : DataW.trod enc P w base sp held fuel t cs = some (.lit (.string b), p)) : cs = [.string ⟨b.toArray⟩] := by
  cases fuel with
  | zero => simp [DataW.trod] at h
  | succ fuel =>
    simp only [DataW.trod, ht] at h
    split at h <;> simp_all
    obtain ⟨_, rfl, _⟩ := h
    rfl

/-- the bools of a table of tables -/
def boolsOf : List (DataW Unit) → List (List Bool)
  | [] => []
  | .agg ds :: r => (ds.map fun | .lit (.bool b) => b | _ => false) :: boolsOf r
  | _ :: r => [] :: boolsOf r

/-- A TABLE OF TABLES OF BOOLS, CELL FOR CELL -/
theorem bools_of_laid {P : Program} {W : World} {name : String} {ds : List (DataW Unit)} {g : Nat} {t e : TypeId} {n k : Nat} {tb : TypeId} {T : List (List Bool)}
    (hg : P.globalNamed name = some g) (hty : (P.globals[g]?).map (·.type) = some t) (ht : P.underlying t = some (.array n e)) (he : P.underlying e = some (.array k tb)) (hb : P.underlying tb = some .bool) (hcb : P.cellsOf tb = 1) (hce : P.cellsOf e = k)
    (hT : ds = T.map fun l => .agg (l.map fun b => .lit (.bool b))) (hk : ∀ l ∈ T, l.length = k)
    (h : laidMet P [(name, .agg ds)] W) : ∀ i j, i < T.length → j < k → W.cell? ⟨g, i * k + j, none⟩ = some (.bool ((T.getD i []).getD j false)) := by
  obtain ⟨ps, ⟨g', t', cs, fuel, p, q, hg', ht', hvar, hd, _, _⟩, _⟩ := h
  obtain rfl := Option.some.inj (hg.symm.trans hg')
  obtain rfl := Option.some.inj (hty.symm.trans ht')
  intro i j hi hj
  subst hT
  obtain ⟨f1, p1, h1⟩ := arr_of_trod ht hd i (.agg (T[i].map fun b => .lit (.bool b))) (by simp [hi])
  have hl : T[i].length = k := hk _ (List.getElem_mem hi)
  obtain ⟨f2, p2, h2⟩ := arr_of_trod he h1 j (.lit (.bool (T[i][j]'(by omega)))) (by simp [hl, hj])
  have h3 := bool_of_trod hb h2
  rw [World.var?_cell hg hvar (i * k + j)]
  have h4 := congrArg (·[0]?) h3
  simp only [hcb, hce, Nat.mul_one, List.getElem?_take, List.getElem?_drop, List.getElem?_cons_zero] at h4
  have h5 : cs[i * k + j]? = some (.bool (T[i][j]'(by omega))) := by
    have : j < k := hj
    simpa [this] using h4
  rw [h5]
  simp [List.getD, hi, hl, hj]

/-- A TABLE OF STRINGS, CELL FOR CELL -/
theorem strings_of_laid {P : Program} {W : World} {name : String} {ds : List (DataW Unit)} {g : Nat} {t e : TypeId} {n : Nat} {T : List (List UInt8)}
    (hg : P.globalNamed name = some g) (hty : (P.globals[g]?).map (·.type) = some t) (ht : P.underlying t = some (.array n e)) (he : P.underlying e = some .string) (hce : P.cellsOf e = 1)
    (hT : ds = T.map fun l => .lit (.string l)) (h : laidMet P [(name, .agg ds)] W) : ∀ i, i < T.length → W.cell? ⟨g, i, none⟩ = some (.string ⟨(T.getD i []).toArray⟩) := by
  obtain ⟨ps, ⟨g', t', cs, fuel, p, q, hg', ht', hvar, hd, _, _⟩, _⟩ := h
  obtain rfl := Option.some.inj (hg.symm.trans hg')
  obtain rfl := Option.some.inj (hty.symm.trans ht')
  intro i hi
  subst hT
  obtain ⟨f1, p1, h1⟩ := arr_of_trod ht hd i (.lit (.string T[i])) (by simp [hi])
  have h3 := string_of_trod he h1
  rw [World.var?_cell hg hvar i]
  have h4 := congrArg (·[0]?) h3
  simp only [hce, Nat.mul_one, List.getElem?_take, List.getElem?_drop, List.getElem?_cons_zero] at h4
  have h5 : cs[i]? = some (.string ⟨T[i].toArray⟩) := by simpa using h4
  rw [h5]
  simp [List.getD, hi]
end Go.Proofs.YtbbldkldgjmmgaaGreatDoor
