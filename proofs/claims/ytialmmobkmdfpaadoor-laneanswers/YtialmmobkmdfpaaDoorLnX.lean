/-
  a lane above the ground: Withdraw, Forget, Clear; LaneTakes' list
-/
import Derived.Test.YtialmmobkmdfpaaDoorLnH
import Derived.Test.YtialmmobkmdfpaaDoorLnW
namespace Go.Proofs.YtialmmobkmdfpaaDoor
open Go.RowKit

variable {A : Nat → Addr} {w w' w0 : World} {own own' : Nat → Nat} {p m : Nat} {L : List Tk} {I : Nat → Prop}

theorem withdrawX (h : Ln A w0 own w p L m) (hm : m ≤ 8796093022208) (kind : Int) (s : Nat) (hs : s ≤ 4294967295) :
    Calls Tryd.prog 18 #[ptr p, .int .i64 kind, .int .u32 s] w fun e w' => ∃ own', e = .returned (.bool (L.any (isT kind s))) ∧ Aside (Ln A w0 own' w' p (L.eraseP (isT kind s)) m) ∧ Aside (Sn (In4 1) own w own' w') := by
  obtain ⟨Z, h1, rfl⟩ := h.l
  refine (withdraw_at h1 h.g.st.tab hm kind s hs).mono ?_
  rintro e w' ⟨own', Z', rfl, r⟩
  exact ⟨own', rfl, ⟨h.g.sn r.it.2.2 not_in4_0, Z', r.it.1, r.it.2.1⟩, ⟨r.it.2.2⟩⟩
theorem forgetX (h : Ln A w0 own w p L m) (hm : m ≤ 8796093022208) (s : Nat) :
    Calls Tryd.prog 19 #[ptr p, .int .u32 s] w fun e w' => ∃ own', e = .returned (.int .i64 (L.countP (fun t => decide (t.s = s)))) ∧ Aside (Ln A w0 own' w' p (L.filter (fun t => !decide (t.s = s))) m) ∧ Aside (Sn (In4 1) own w own' w') := by
  obtain ⟨Z, h1, rfl⟩ := h.l
  refine (forget_at h1 hm s).mono ?_
  rintro e w' ⟨own', rfl, r⟩
  refine ⟨own', ?_, ⟨h.g.sn r.it.2 not_in4_0, _, r.it.1, ?_⟩, ⟨r.it.2⟩⟩
  · rw [List.countP_map]; rfl
  · rw [List.filter_map]; rfl
theorem clearX (h : Ln A w0 own w p L m) (hm : m ≤ 8796093022208) :
    Calls Tryd.prog 20 #[ptr p] w fun e w' => ∃ own', e = .returned (.int .i64 L.length) ∧ Aside (Ln A w0 own' w' p [] m) ∧ Aside (Sn (In4 1) own w own' w') := by
  obtain ⟨Z, h1, rfl⟩ := h.l
  refine (clear_at h1 hm).mono ?_
  rintro e w' ⟨own', rfl, r⟩
  exact ⟨own', by simp, ⟨h.g.sn r.it.2 not_in4_0, _, r.it.1, rfl⟩, ⟨r.it.2⟩⟩
theorem Ln.more (h : Ln A w0 own w p L m) : Ln A w0 own w p L (m + 1) := by
  obtain ⟨Z, ⟨fp, mb, F, h1⟩, h2⟩ := h.l
  exact ⟨h.g, Z, ⟨fp, mb, F, h1.more⟩, h2⟩

/-- what LaneTakes takes for gone -/
def goneB (kind k : Int) (s : Nat) (n : Nat) (t : Tk) : Bool := decide (kind = 4) || (decide (kind = 3) && decide (t.s = s)) || (decide (kind = 2) && decide (n = 0) && isT k s t)
def stepG (kind k : Int) (s : Nat) (a : List Tk × Nat) (t : Tk) : List Tk × Nat := if goneB kind k s a.2 t then (a.1, a.2 + 1) else (a.1 ++ [t], a.2)
def resG (kind k : Int) (s : Nat) (l : List Tk) : List Tk × Nat := l.foldl (stepG kind k s) ([], 0)
theorem resG_snoc (kind k : Int) (s : Nat) (l : List Tk) (t : Tk) : resG kind k s (l ++ [t]) = stepG kind k s (resG kind k s l) t := by simp [resG, List.foldl_append]
theorem resG_take (kind k : Int) (s : Nat) (l : List Tk) (j : Nat) (t : Tk) (h : l[j]? = some t) : resG kind k s (l.take (j + 1)) = stepG kind k s (resG kind k s (l.take j)) t := by
  rw [List.take_add_one, h]
  exact resG_snoc _ _ _ _ _
theorem resG_len (kind k : Int) (s : Nat) (l : List Tk) (j : Nat) (hj : j ≤ l.length) : (resG kind k s (l.take j)).1.length ≤ j ∧ (resG kind k s (l.take j)).2 ≤ j := by
  induction j with
  | zero => exact ⟨Nat.le_refl _, Nat.le_refl _⟩
  | succ j ih =>
    obtain ⟨t, ht⟩ : ∃ t, l[j]? = some t := ⟨_, List.getElem?_eq_getElem (by omega)⟩
    obtain ⟨h1, h2⟩ := ih (by omega)
    rw [resG_take _ _ _ _ _ _ ht]
    unfold stepG
    split
    · exact ⟨by simp only; omega, by simp only; omega⟩
    · refine ⟨?_, by simp only; omega⟩
      simp only [List.length_append, List.length_cons, List.length_nil]
      omega
theorem fold4 (k : Int) (s : Nat) (l : List Tk) (a : List Tk × Nat) : l.foldl (stepG 4 k s) a = (a.1, a.2 + l.length) := by
  induction l generalizing a with
  | nil => rfl
  | cons t l ih =>
    rw [List.foldl_cons, ih]
    simp only [stepG, goneB, decide_true, Bool.true_or, if_true, List.length_cons]
    rw [show a.2 + 1 + l.length = a.2 + (l.length + 1) by omega]
theorem fold3 (k : Int) (s : Nat) (l : List Tk) (a : List Tk × Nat) : l.foldl (stepG 3 k s) a = (a.1 ++ l.filter (fun t => !decide (t.s = s)), a.2 + l.countP (fun t => decide (t.s = s))) := by
  induction l generalizing a with
  | nil => simp
  | cons t l ih =>
    rw [List.foldl_cons, ih]
    by_cases h : t.s = s
    · simp [stepG, goneB, h]; omega
    · simp [stepG, goneB, h]
theorem fold2 (k : Int) (s : Nat) (l : List Tk) (a : List Tk × Nat) : l.foldl (stepG 2 k s) a = if a.2 = 0 then (a.1 ++ l.eraseP (isT k s), if l.any (isT k s) then 1 else 0) else (a.1 ++ l, a.2) := by
  induction l generalizing a with
  | nil => by_cases h : a.2 = 0 <;> simp [h]; exact Prod.ext rfl h
  | cons t l ih =>
    rw [List.foldl_cons, ih]
    by_cases h0 : a.2 = 0
    · cases ht : isT k s t with
      | true => simp [stepG, goneB, h0, ht]
      | false => simp [stepG, goneB, h0, ht]
    · simp [stepG, goneB, h0]
theorem fold0 (kind k : Int) (s : Nat) (h : kind ≠ 4 ∧ kind ≠ 3 ∧ kind ≠ 2) (l : List Tk) (a : List Tk × Nat) : l.foldl (stepG kind k s) a = (a.1 ++ l, a.2) := by
  induction l generalizing a with
  | nil => simp
  | cons t l ih =>
    rw [List.foldl_cons, ih]
    simp [stepG, goneB, h.1, h.2.1, h.2.2]
end Go.Proofs.YtialmmobkmdfpaaDoor
