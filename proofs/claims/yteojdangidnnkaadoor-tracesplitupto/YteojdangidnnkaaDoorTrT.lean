/-
  TraceSplit: bytes that are written and given one by one, in lists
-/
import Derived.Test.YteojdangidnnkaaDoorTrQ
namespace Go.Proofs.YteojdangidnnkaaDoor
open Go.RowKit Go.Maps

variable {own own' : Nat → Nat} {i p ph pg T : Nat} {w w' w0 w1 W : World} {L Lg : Hs} {I : Nat → Prop} {k ky : Int} {b : Nat} {v bv' sl : Value} {r : Rc} {A : Nat → Addr} {ms ns : List Int} {X : Bxs}

theorem tset_tset (L : Hs) (k : Int) (r1 r2 : Rc) : tset (tset L k r1) k r2 = tset L k r2 := by
  induction L with
  | nil => simp [tset]
  | cons x L ih =>
    by_cases h1 : x.1 < k
    · have e1 : tset (x :: L) k r1 = x :: tset L k r1 := by rw [tset, if_pos h1]
      have e2 : tset (x :: L) k r2 = x :: tset L k r2 := by rw [tset, if_pos h1]
      rw [e1, e2, tset, if_pos h1, ih]
    · by_cases h2 : x.1 = k
      · have e1 : tset (x :: L) k r1 = (k, r1) :: L := by rw [tset, if_neg h1, if_pos h2]
        have e2 : tset (x :: L) k r2 = (k, r2) :: L := by rw [tset, if_neg h1, if_pos h2]
        rw [e1, e2, tset, if_neg (by simp), if_pos rfl]
      · have e1 : tset (x :: L) k r1 = (k, r1) :: x :: L := by rw [tset, if_neg h1, if_neg h2]
        have e2 : tset (x :: L) k r2 = (k, r2) :: x :: L := by rw [tset, if_neg h1, if_neg h2]
        rw [e1, e2, tset, if_neg (by simp), if_pos rfl]
theorem wrote_wrote (h : (got L k).cl = false) (a c : List Int) : wroteL (wroteL L k a) k c = wroteL L k (a ++ c) := by
  have e1 : ∀ x, wroteL L k x = tset L k { got L k with wr := (got L k).wr ++ x } := fun x => by unfold wroteL; rw [h]; rfl
  rw [e1 a, e1 (a ++ c)]
  unfold wroteL
  rw [got_tset, if_pos rfl]
  simp only [h, Bool.false_eq_true, if_false]
  rw [tset_tset, List.append_assoc]
theorem cl_wrote (h : (got L k).cl = false) (a : List Int) : (got (wroteL L k a) k).cl = false := by
  rw [got_wrote]; unfold wroteR; simp [h]
/-- g has heard the first bytes -/
def Half (L Lg : Hs) (k : Int) (a : List Int) : Prop := (got Lg k).cl = false ∧ ∀ c, wroteL Lg k c = wroteL L k (a ++ c)
theorem Half.start (h : (got L k).cl = false) : Half L L k [] := ⟨h, fun _ => rfl⟩
theorem Half.next (h : Half L Lg k ns) (x : Int) : Half L (wroteL Lg k [x]) k (ns ++ [x]) := ⟨cl_wrote h.1 _, fun c => by rw [wrote_wrote h.1, h.2, List.append_assoc]⟩
theorem Half.code (h : Half L Lg k ns) : wroteC Lg k = 0 := by unfold wroteC; rw [h.1]; rfl
theorem gaveB_iff (L : Hs) (k : Int) (a : List Int) : gaveB L k a = true ↔ a <+: (got L k).rest := by
  unfold gaveB
  rw [Bool.and_eq_true, decide_eq_true_eq, decide_eq_true_eq, List.prefix_iff_eq_take]
  constructor
  · rintro ⟨_, h⟩; exact h.symm
  · intro h
    refine ⟨?_, h.symm⟩
    have := congrArg List.length h
    rw [List.length_take] at this
    omega
theorem gave_gave {c : List Int} (h : gaveB L k (ns ++ c) = true) : gaveB (gaveL L k ns) k c = true ∧ gaveL (gaveL L k ns) k c = gaveL L k (ns ++ c) := by
  have hp := (gaveB_iff L k (ns ++ c)).1 h
  have h0 : gaveB L k ns = true := (gaveB_iff L k ns).2 ((List.prefix_append ns c).trans hp)
  have e1 : gaveL L k ns = tset L k { got L k with rd := (got L k).rd + ns.length } := by unfold gaveL; rw [h0]; rfl
  obtain ⟨t, ht⟩ := hp
  have eg : got (gaveL L k ns) k = { got L k with rd := (got L k).rd + ns.length } := by rw [e1, got_tset, if_pos rfl]
  have er : (got (gaveL L k ns) k).rest = c ++ t := by
    rw [eg]
    simp only [Rc.rest]
    rw [← List.drop_drop]
    have : (got L k).wr.drop (got L k).rd = ns ++ (c ++ t) := by rw [← List.append_assoc]; exact ht.symm
    rw [this, List.drop_left]
  have eb : gaveB (gaveL L k ns) k c = true := (gaveB_iff _ _ _).2 (by rw [er]; exact List.prefix_append c t)
  refine ⟨eb, ?_⟩
  have e2 : gaveL (gaveL L k ns) k c = tset (gaveL L k ns) k { got (gaveL L k ns) k with rd := (got (gaveL L k ns) k).rd + c.length } := by
    show (if gaveB (gaveL L k ns) k c then _ else _) = _
    rw [eb]; rfl
  have e3 : gaveL L k (ns ++ c) = tset L k { got L k with rd := (got L k).rd + (ns ++ c).length } := by
    show (if gaveB L k (ns ++ c) then _ else _) = _
    rw [h]; rfl
  rw [e2, e3, eg, e1, tset_tset]
  simp only [List.length_append, Nat.add_assoc]
def HalfG (L Lg : Hs) (k : Int) (a : List Int) : Prop := ∀ c, gaveB L k (a ++ c) = true → gaveB Lg k c = true ∧ gaveL Lg k c = gaveL L k (a ++ c)
theorem HalfG.start : HalfG L L k [] := fun _ h => ⟨h, rfl⟩
theorem HalfG.next (h : HalfG L Lg k ns) (x : Int) : HalfG L (gaveL Lg k [x]) k (ns ++ [x]) := fun c hc => by
  rw [List.append_assoc] at hc ⊢
  have h1 := h ([x] ++ c) hc
  have h2 := gave_gave (L := Lg) (ns := [x]) h1.1
  exact ⟨h2.1, h2.2.trans h1.2⟩
theorem HalfG.code (h : HalfG L Lg k ns) {c : List Int} (hc : gaveB L k (ns ++ c) = true) : gaveC Lg k c = 0 := by unfold gaveC; rw [(h c hc).1]; rfl
theorem gaveB_pre {c : List Int} (h : gaveB L k (ns ++ c) = true) : gaveB L k ns = true := (gaveB_iff L k ns).2 ((List.prefix_append ns c).trans ((gaveB_iff L k (ns ++ c)).1 h))
theorem take_snoc {j : Nat} {x : Int} (h : ns[j]? = some x) : ns.take (j + 1) = ns.take j ++ [x] := by rw [List.take_add_one, h]; rfl
theorem seg_one {j : Nat} {x : Int} (h : ns[j]? = some x) : (ns.drop j).take 1 = [x] := by
  have hjl : j < ns.length := (List.getElem?_eq_some_iff.1 h).1
  rw [List.drop_eq_getElem_cons hjl]
  rw [List.getElem?_eq_getElem hjl] at h
  simp only [Option.some.injEq] at h
  rw [h]
  rfl
theorem Rd.seg1 {q : Option Addr} {n c j : Nat} {x : Int} (h : Rd w (.slice q n c) ns) (hj : ns[j]? = some x) : Rd w (.slice (q.map (·.add j)) 1 (c - j)) [x] := by
  have hjl : j < ns.length := (List.getElem?_eq_some_iff.1 hj).1
  have hl := h.len
  have := RdS.seg (S := Nowhere) (a := j) (n := 1) h (by omega)
  rw [seg_one hj, if_neg (by omega)] at this
  exact this
theorem kw_textH (h : Aside (Kw A w0 own W ph pg T L Lg X bv' ms)) (hT : T ≤ 70368744177664) (hn : L.length ≤ 1073741824) : Calls Tryd.prog 14 #[ptr ph] W fun e w' => e = .returned (.string (str (textT L))) ∧ Aside (Keeps Nowhere W w') ∧ Aside (Kw A w0 own w' ph pg T L Lg X bv' ms) := by
  refine (text_at h.it.h h.it.pow hT hn).mono ?_
  rintro e w' ⟨rfl, K⟩
  exact ⟨rfl, K, ⟨h.it.quiet K.it⟩⟩
theorem kw_textG (h : Aside (Kw A w0 own W ph pg T L Lg X bv' ms)) (hT : T ≤ 70368744177664) (hn : Lg.length ≤ 1073741824) : Calls Tryd.prog 14 #[ptr pg] W fun e w' => e = .returned (.string (str (textT Lg))) ∧ Aside (Keeps Nowhere W w') ∧ Aside (Kw A w0 own w' ph pg T L Lg X bv' ms) := by
  refine (text_at h.it.k h.it.pow hT hn).mono ?_
  rintro e w' ⟨rfl, K⟩
  exact ⟨rfl, K, ⟨h.it.quiet K.it⟩⟩
end Go.Proofs.YteojdangidnnkaaDoor
