/-
  A ring of seats in numbers: blocks in their order, each with the one ahead and the one behind. Of whatever program.
-/
import Derived.Test.YthjeeianlgkaaaaDoorBase
namespace Go.Proofs.YthjeeianlgkaaaaDoor

def nx (n j : Nat) : Nat := if j + 1 = n then 0 else j + 1
def pv (n j : Nat) : Nat := if j = 0 then n - 1 else j - 1
def Rg (l : List Nat) (pf nf : Nat → Option Nat) : Prop := ∀ j b, l[j]? = some b → nf b = l[nx l.length j]? ∧ pf b = l[pv l.length j]?
def upd {α : Type} (f : Nat → α) (b : Nat) (o : α) : Nat → α := fun x => if x = b then o else f x
theorem upd_same {α : Type} (f : Nat → α) (b : Nat) (o : α) : upd f b o b = o := if_pos rfl
theorem upd_other {α : Type} (f : Nat → α) {b c : Nat} (o : α) (h : c ≠ b) : upd f b o c = f c := if_neg h

variable {l t : List Nat} {pf nf : Nat → Option Nat} {x z s b p q j : Nat}

theorem lt_of_some {j c : Nat} (h : l[j]? = some c) : j < l.length := by obtain ⟨h1, _⟩ := List.getElem?_eq_some_iff.1 h; exact h1
theorem nodup_idx {a b c : Nat} (hn : l.Nodup) (h1 : l[a]? = some c) (h2 : l[b]? = some c) : a = b := (List.getElem?_inj (lt_of_some h1) hn).1 (h1.trans h2.symm)
theorem Rg.nil : Rg [] pf nf := fun _ _ h => by simp at h
theorem Rg.one : Rg [s] (upd pf s (some s)) (upd nf s (some s)) := by
  intro j b hj
  have := lt_of_some hj
  simp only [List.length_singleton] at this
  obtain rfl : j = 0 := by omega
  simp only [List.getElem?_cons_zero, Option.some.injEq] at hj
  subst hj
  rw [upd_same, upd_same]
  exact ⟨rfl, rfl⟩
theorem rot_get (j : Nat) (hj : j ≤ t.length) : (t ++ [x])[j]? = (x :: t)[nx (t.length + 1) j]? := by
  unfold nx
  split
  · have : j = t.length := by omega
    subst this
    simp
  · rw [List.getElem?_append_left (by omega)]
    simp
theorem Rg.rot (h : Rg (x :: t) pf nf) : Rg (t ++ [x]) pf nf := by
  intro j b hj
  have hlt := lt_of_some hj
  simp only [List.length_append, List.length_cons, List.length_nil, Nat.zero_add] at hlt ⊢
  rw [rot_get j (by omega)] at hj
  obtain ⟨a, c⟩ := h _ b hj
  rw [List.length_cons] at a c
  rw [rot_get _ (by unfold nx; split <;> omega), rot_get _ (by unfold pv; split <;> omega), a, c]
  refine ⟨rfl, ?_⟩
  congr 1
  unfold nx pv
  repeat' split
  all_goals omega
theorem Rg.join (hn : l.Nodup) (hs : s ∉ l) (h0 : l[0]? = some x) (hz : l[l.length - 1]? = some z) (h : Rg l pf nf) :
    Rg (l ++ [s]) (upd (upd pf s (some z)) x (some s)) (upd (upd nf s (some x)) z (some s)) := by
  have n0 := lt_of_some h0
  have sx : s ≠ x := fun e => hs (e ▸ List.mem_of_getElem? h0)
  have sz : s ≠ z := fun e => hs (e ▸ List.mem_of_getElem? hz)
  intro j b hj
  have hlt := lt_of_some hj
  simp only [List.length_append, List.length_cons, List.length_nil, Nat.zero_add] at hlt ⊢
  by_cases hjl : j < l.length
  · rw [List.getElem?_append_left hjl] at hj
    have bs : b ≠ s := fun e => hs (e ▸ List.mem_of_getElem? hj)
    obtain ⟨a, c⟩ := h j b hj
    constructor
    · by_cases hb : b = z
      · subst hb
        have := nodup_idx hn hj hz
        rw [upd_same]
        unfold nx
        rw [if_neg (by omega), List.getElem?_append_right (by omega), show j + 1 - l.length = 0 by omega]
        rfl
      · rw [upd_other _ _ hb, upd_other _ _ bs, a]
        have : j ≠ l.length - 1 := fun e => hb (by rw [e, hz] at hj; exact (Option.some.inj hj).symm)
        unfold nx
        rw [if_neg (by omega), if_neg (by omega), List.getElem?_append_left (by omega)]
    · by_cases hb : b = x
      · subst hb
        have := nodup_idx hn hj h0
        rw [upd_same]
        unfold pv
        rw [if_pos this, List.getElem?_append_right (by omega), show l.length + 1 - 1 - l.length = 0 by omega]
        rfl
      · rw [upd_other _ _ hb, upd_other _ _ bs, c]
        have : j ≠ 0 := fun e => hb (by rw [e, h0] at hj; exact (Option.some.inj hj).symm)
        unfold pv
        rw [if_neg this, if_neg this, List.getElem?_append_left (by omega)]
  · obtain rfl : j = l.length := by omega
    rw [List.getElem?_append_right (by omega), Nat.sub_self] at hj
    obtain rfl : s = b := Option.some.inj hj
    rw [upd_other _ _ sz, upd_same, upd_other _ _ sx, upd_same]
    unfold nx pv
    rw [if_pos rfl, if_neg (by omega), List.getElem?_append_left n0, List.getElem?_append_left (by omega)]
    exact ⟨h0.symm, hz.symm⟩
theorem Rg.behind (h : Rg l pf nf) (hb : b ∈ l) : ∃ q, nf b = some q ∧ q ∈ l := by
  obtain ⟨j, hj⟩ := List.mem_iff_getElem?.1 hb
  have hl := lt_of_some hj
  have hlt : nx l.length j < l.length := by unfold nx; split <;> omega
  exact ⟨_, (h j b hj).1.trans (List.getElem?_eq_getElem hlt), List.getElem_mem hlt⟩
theorem Rg.ahead (h : Rg l pf nf) (hb : b ∈ l) : ∃ q, pf b = some q ∧ q ∈ l := by
  obtain ⟨j, hj⟩ := List.mem_iff_getElem?.1 hb
  have hl := lt_of_some hj
  have hlt : pv l.length j < l.length := by unfold pv; split <;> omega
  exact ⟨_, (h j b hj).2.trans (List.getElem?_eq_getElem hlt), List.getElem_mem hlt⟩
theorem erase_get (j i : Nat) : (l.eraseIdx j)[i]? = l[if i < j then i else i + 1]? := by
  rw [List.getElem?_eraseIdx]
  split <;> rfl
theorem Rg.erase (hn : l.Nodup) (hj : l[j]? = some b) (hp : pf b = some p) (hq : nf b = some q) (h : Rg l pf nf) :
    Rg (l.eraseIdx j) (upd pf q (some p)) (upd nf p (some q)) := by
  have hjl := lt_of_some hj
  obtain ⟨a0, c0⟩ := h j b hj
  rw [hq] at a0
  rw [hp] at c0
  intro i c hi
  have hil := lt_of_some hi
  rw [List.length_eraseIdx_of_lt hjl] at hil ⊢
  rw [erase_get] at hi
  obtain ⟨a, e⟩ := h _ c hi
  rw [erase_get, erase_get]
  constructor
  · by_cases hc : c = p
    · subst hc
      rw [upd_same, a0]
      have := nodup_idx hn hi c0.symm
      congr 1
      revert this
      unfold nx pv
      repeat' split
      all_goals omega
    · rw [upd_other _ _ hc, a]
      have : (if i < j then i else i + 1) ≠ pv l.length j := fun e => hc (by rw [e, ← c0] at hi; exact (Option.some.inj hi).symm)
      congr 1
      revert this
      unfold nx pv
      repeat' split
      all_goals omega
  · by_cases hc : c = q
    · subst hc
      rw [upd_same, c0]
      have := nodup_idx hn hi a0.symm
      congr 1
      revert this
      unfold nx pv
      repeat' split
      all_goals omega
    · rw [upd_other _ _ hc, e]
      have : (if i < j then i else i + 1) ≠ nx l.length j := fun e => hc (by rw [e, ← a0] at hi; exact (Option.some.inj hi).symm)
      congr 1
      revert this
      unfold nx pv
      repeat' split
      all_goals omega
theorem erase_head (hj : l[j]? = some b) (hn : l.Nodup) (hq : nf b = some q) (h : Rg l pf nf) (hl : l.length ≠ 1) : (l.eraseIdx j)[0]? = if l[0]? = some b then some q else l[0]? := by
  have hjl := lt_of_some hj
  rw [erase_get]
  split
  · rw [if_neg]
    intro e
    have := nodup_idx hn e hj
    omega
  · obtain rfl : j = 0 := by omega
    rw [if_pos hj, ← hq, (h 0 b hj).1]
    unfold nx
    rw [if_neg (by omega)]
/-- what Add, Remove and Next leave, and answer -/
def addL {K : Type} [DecidableEq K] (ks : List K) (k : K) : List K := if k ∈ ks then ks else ks ++ [k]
def addT {K : Type} [DecidableEq K] (ks : List K) (k : K) : Bool := decide (k ∉ ks)
def inT {K : Type} [DecidableEq K] (ks : List K) (k : K) : Bool := decide (k ∈ ks)
def remL {K : Type} [DecidableEq K] (ks : List K) (k : K) : List K := ks.erase k
def rotL {K : Type} : List K → List K
  | [] => []
  | k :: t => t ++ [k]
def frst {K : Type} (z : K) (ks : List K) : K := ks.head?.getD z
def some1 {K : Type} (ks : List K) : Bool := !ks.isEmpty
section
variable {K : Type} [DecidableEq K] {ks : List K} {k : K}
theorem inT_true (h : k ∈ ks) : inT ks k = true := decide_eq_true h
theorem inT_false (h : k ∉ ks) : inT ks k = false := decide_eq_false h
theorem addT_true (h : k ∉ ks) : addT ks k = true := decide_eq_true h
theorem addT_false (h : k ∈ ks) : addT ks k = false := decide_eq_false (fun x => x h)
theorem addL_in (h : k ∈ ks) : addL ks k = ks := if_pos h
theorem addL_new (h : k ∉ ks) : addL ks k = ks ++ [k] := if_neg h
end
/-- the seat of a key -/
def fk {K : Type} [DecidableEq K] (l : List Nat) (kf : Nat → K) (k : K) : Option Nat := l.find? (fun b => decide (kf b = k))
def setK {K : Type} [DecidableEq K] (F : K → Option Nat) (k : K) (o : Option Nat) : K → Option Nat := fun k' => if k' = k then o else F k'
section
variable {K : Type} [DecidableEq K] {kf : Nat → K} {k : K}
theorem fk_some (h : fk l kf k = some b) : b ∈ l ∧ kf b = k := ⟨List.mem_of_find?_eq_some h, of_decide_eq_true (List.find?_some (p := fun b => decide (kf b = k)) h)⟩
theorem fk_none (h : fk l kf k = none) : k ∉ l.map kf := by
  intro hm
  obtain ⟨b, hb, e⟩ := List.mem_map.1 hm
  have := List.find?_eq_none.1 h b hb
  exact this (decide_eq_true e)
theorem fk_nil : fk [] kf k = none := rfl
theorem fk_eq (hk : ∀ b ∈ l, ∀ c ∈ l, kf b = kf c → b = c) (hb : b ∈ l) (e : kf b = k) : fk l kf k = some b := by
  cases h : fk l kf k with
  | none => exact absurd (List.mem_map.2 ⟨b, hb, e⟩) (fk_none h)
  | some c =>
    obtain ⟨hc, e'⟩ := fk_some h
    rw [hk c hc b hb (e'.trans e.symm)]
theorem fk_out (h : k ∉ l.map kf) : fk l kf k = none := by
  cases e : fk l kf k with
  | none => rfl
  | some c => obtain ⟨hc, e'⟩ := fk_some e; exact absurd (List.mem_map.2 ⟨c, hc, e'⟩) h
theorem fk_snoc (hs : s ∉ l) (h0 : fk l kf k = none) : fk (l ++ [s]) (upd kf s k) = setK (fk l kf) k (some s) := by
  funext k'
  have e1 : ∀ k', l.find? (fun b => decide (upd kf s k b = k')) = fk l kf k' := by
    intro k'
    unfold fk
    clear h0
    induction l with
    | nil => rfl
    | cons y l ih =>
      rw [List.find?_cons, List.find?_cons, upd_other _ _ (fun e => hs (by rw [e]; exact List.mem_cons_self)), ih (fun h => hs (List.mem_cons_of_mem _ h))]
  unfold setK
  show (l ++ [s]).find? _ = _
  rw [List.find?_append, e1]
  split
  · rename_i e
    subst e
    rw [h0]
    simp [upd_same]
  · rename_i e
    have : [s].find? (fun b => decide (upd kf s k b = k')) = none := by simp [upd_same, Ne.symm e]
    rw [this]
    cases fk l kf k' <;> rfl
omit [DecidableEq K] in
theorem map_upd (hs : s ∉ l) : l.map (upd kf s k) = l.map kf := List.map_congr_left fun _ hy => upd_other _ _ (fun e => hs (e ▸ hy))
theorem fk_erase (hk : ∀ b ∈ l, ∀ c ∈ l, kf b = kf c → b = c) (hn : l.Nodup) (hj : l[j]? = some b) (hb : kf b = k) : fk (l.eraseIdx j) kf = setK (fk l kf) k none := by
  funext k'
  have hsub : ∀ c ∈ l.eraseIdx j, c ∈ l := fun c hc => List.mem_of_mem_eraseIdx hc
  have hnb : b ∉ l.eraseIdx j := by
    intro hm
    obtain ⟨i, hi⟩ := List.mem_iff_getElem?.1 hm
    rw [erase_get] at hi
    have := nodup_idx hn hi hj
    split at this <;> omega
  have hin : ∀ c ∈ l, c ≠ b → c ∈ l.eraseIdx j := by
    intro c hc hne
    obtain ⟨i, hi⟩ := List.mem_iff_getElem?.1 hc
    have : i ≠ j := fun e => hne (by rw [e, hj] at hi; exact (Option.some.inj hi).symm)
    refine List.mem_iff_getElem?.2 ⟨if i < j then i else i - 1, ?_⟩
    rw [erase_get, ← hi]
    congr 1
    repeat' split
    all_goals omega
  unfold setK
  split
  · rename_i e
    subst e
    refine fk_out fun hm => ?_
    obtain ⟨c, hc, ec⟩ := List.mem_map.1 hm
    have := hk c (hsub c hc) b (List.mem_of_getElem? hj) (ec.trans hb.symm)
    exact hnb (this ▸ hc)
  · rename_i e
    cases hf : fk l kf k' with
    | none =>
      refine fk_out fun hm => ?_
      obtain ⟨c, hc, ec⟩ := List.mem_map.1 hm
      exact fk_none hf (List.mem_map.2 ⟨c, hsub c hc, ec⟩)
    | some c =>
      obtain ⟨hc, ec⟩ := fk_some hf
      exact fk_eq (fun x hx y hy => hk x (hsub x hx) y (hsub y hy)) (hin c hc (fun e' => e (by rw [← ec, e', hb]))) ec
theorem map_erase (hk : ∀ b ∈ l, ∀ c ∈ l, kf b = kf c → b = c) (hj : l[j]? = some b) (hn : l.Nodup) (hb : kf b = k) : (l.eraseIdx j).map kf = (l.map kf).erase k := by
  induction l generalizing j with
  | nil => simp at hj
  | cons y l ih =>
    cases j with
    | zero =>
      simp only [List.getElem?_cons_zero, Option.some.injEq] at hj
      subst hj
      simp [hb]
    | succ j =>
      rw [List.getElem?_cons_succ] at hj
      have hy : kf y ≠ k := by
        intro e
        have := hk y List.mem_cons_self b (List.mem_cons_of_mem _ (List.mem_of_getElem? hj)) (e.trans hb.symm)
        exact (List.nodup_cons.1 hn).1 (this ▸ List.mem_of_getElem? hj)
      rw [List.eraseIdx_cons_succ, List.map_cons, List.map_cons, List.erase_cons_tail (by simpa using hy), ih (fun x hx y hy => hk x (List.mem_cons_of_mem _ hx) y (List.mem_cons_of_mem _ hy)) hj (List.nodup_cons.1 hn).2]
end
end Go.Proofs.YthjeeianlgkaaaaDoor
