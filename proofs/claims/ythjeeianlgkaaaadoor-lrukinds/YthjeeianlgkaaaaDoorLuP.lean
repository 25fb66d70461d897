/-
  What a cache holds, in numbers and lists. Of whatever program.
-/
import Derived.Test.YthjeeianlgkaaaaDoorRbP
namespace Go.Proofs.YthjeeianlgkaaaaDoor

structure Rx where
  k : Int
  t : Int
  w : Int
  u : Int
  deriving DecidableEq
instance : Inhabited Rx := ⟨⟨0, 0, 0, 0⟩⟩
def keyL (L : List Rx) : List Int := L.map Rx.k
def sumL (L : List Rx) : Int := (L.map Rx.w).sum
def dropL (L : List Rx) (k : Int) : List Rx := L.eraseP (fun x => decide (x.k = k))
def findL (L : List Rx) (k : Int) : Option Rx := L.find? (fun x => decide (x.k = k))
def hasL (L : List Rx) (k : Int) : Bool := (findL L k).isSome
/-- how many of the first n may stay: the greatest number, not above n, whose things weigh lim at most -/
def fitN (lim : Int) (L : List Rx) : Nat → Nat
  | 0 => 0
  | n + 1 => if sumL (L.take (n + 1)) ≤ lim then n + 1 else fitN lim L n
def fit (lim : Int) (L : List Rx) : Nat := fitN lim L L.length
def putL (room : Int) (L : List Rx) (x : Rx) : List Rx := x :: (dropL L x.k).take (fit (room - x.w) (dropL L x.k))
def goneL (room : Int) (L : List Rx) (x : Rx) : List Int := keyL ((dropL L x.k).drop (fit (room - x.w) (dropL L x.k))).reverse
def getL (L : List Rx) (k now : Int) : List Rx := match findL L k with
  | none => L
  | some x => if now < x.u then x :: dropL L k else dropL L k
def gotT (L : List Rx) (k now : Int) : Int := match findL L k with
  | none => 0
  | some x => if now < x.u then x.t else 0
def gotB (L : List Rx) (k now : Int) : Bool := match findL L k with
  | none => false
  | some x => decide (now < x.u)
def stayL (L : List Rx) (now : Int) : List Rx := L.filter fun x => decide (now < x.u)
def oldL (L : List Rx) (now : Int) : List Rx := L.filter fun x => !decide (now < x.u)
/-- numbers of 64 bits -/
def I6 (n : Int) : Prop := -9223372036854775808 ≤ n ∧ n ≤ 9223372036854775807
structure Rx.Ok (x : Rx) : Prop where
  k : I6 x.k
  w : 0 ≤ x.w ∧ x.w ≤ 9223372036854775807
  u : I6 x.u
/-- a cache's list -/
structure LOk (room : Int) (L : List Rx) : Prop where
  r0 : 0 ≤ room
  r1 : room ≤ 9223372036854775807
  ok : ∀ x ∈ L, x.Ok
  one : (keyL L).Nodup
  sum : sumL L ≤ room

variable {L M : List Rx} {x y : Rx} {k lim room now : Int} {n : Nat}
theorem sumL_nil : sumL [] = 0 := rfl
theorem sumL_cons : sumL (x :: L) = x.w + sumL L := by simp [sumL]
theorem sumL_append : sumL (L ++ M) = sumL L + sumL M := by
  induction L with
  | nil => simp [sumL]
  | cons a L ih => rw [List.cons_append, sumL_cons, sumL_cons, ih]; omega
theorem sumL_nonneg (h : ∀ x ∈ L, 0 ≤ x.w) : 0 ≤ sumL L := by
  induction L with
  | nil => exact Int.le_refl 0
  | cons a L ih => rw [sumL_cons]; have := h a List.mem_cons_self; have := ih (fun x hx => h x (List.mem_cons_of_mem _ hx)); omega
theorem sumL_take_le (h : ∀ x ∈ L, 0 ≤ x.w) (n : Nat) : sumL (L.take n) ≤ sumL L := by
  have e : sumL L = sumL (L.take n) + sumL (L.drop n) := by rw [← sumL_append, List.take_append_drop]
  have := sumL_nonneg (L := L.drop n) (fun x hx => h x (List.mem_of_mem_drop hx))
  omega
theorem sumL_sub (h : ∀ x ∈ L, 0 ≤ x.w) (hs : M.Sublist L) : sumL M ≤ sumL L := by
  induction hs with
  | slnil => exact Int.le_refl _
  | cons a s ih => rw [sumL_cons]; have := h a List.mem_cons_self; have := ih (fun x hx => h x (List.mem_cons_of_mem _ hx)); omega
  | cons_cons a s ih => rw [sumL_cons, sumL_cons]; have := ih (fun x hx => h x (List.mem_cons_of_mem _ hx)); omega
theorem dropL_sub : (dropL L k).Sublist L := List.eraseP_sublist
theorem fitN_le (lim : Int) (L : List Rx) (n : Nat) : fitN lim L n ≤ n := by
  induction n with
  | zero => exact Nat.le_refl _
  | succ n ih => unfold fitN; split <;> omega
theorem fit_le (lim : Int) (L : List Rx) : fit lim L ≤ L.length := fitN_le _ _ _
theorem fitN_stop (h : sumL (L.take n) ≤ lim) : fitN lim L n = n := by
  cases n with
  | zero => rfl
  | succ n => exact if_pos h
theorem fitN_on (h : ¬ sumL (L.take (n + 1)) ≤ lim) : fitN lim L (n + 1) = fitN lim L n := if_neg h
theorem fitN_sum (h0 : 0 ≤ lim) (n : Nat) : sumL (L.take (fitN lim L n)) ≤ lim := by
  induction n with
  | zero => exact h0
  | succ n ih =>
    unfold fitN
    split
    · assumption
    · exact ih
theorem fit_sum (h0 : 0 ≤ lim) : sumL (L.take (fit lim L)) ≤ lim := fitN_sum h0 _
theorem LOk.w0 (h : LOk room L) : ∀ x ∈ L, 0 ≤ x.w := fun x hx => (h.ok x hx).w.1
theorem LOk.sub (h : LOk room L) (hs : M.Sublist L) : LOk room M :=
  ⟨h.r0, h.r1, fun x hx => h.ok x (hs.subset hx), h.one.sublist (hs.map _), Int.le_trans (sumL_sub h.w0 hs) h.sum⟩
theorem LOk.drop (h : LOk room L) (k : Int) : LOk room (dropL L k) := h.sub dropL_sub
theorem findL_some (h : findL L k = some x) : x ∈ L ∧ x.k = k := ⟨List.mem_of_find?_eq_some h, of_decide_eq_true (List.find?_some (p := fun x : Rx => decide (x.k = k)) h)⟩
theorem findL_none (h : findL L k = none) : k ∉ keyL L := by
  intro hm
  obtain ⟨b, hb, e⟩ := List.mem_map.1 hm
  exact List.find?_eq_none.1 h b hb (decide_eq_true e)
theorem dropL_none (h : findL L k = none) : dropL L k = L := by
  refine List.eraseP_of_forall_not fun x hx e => ?_
  exact findL_none h (List.mem_map.2 ⟨x, hx, of_decide_eq_true e⟩)
theorem dropL_out (h1 : (keyL L).Nodup) : k ∉ keyL (dropL L k) := by
  induction L with
  | nil => simp [keyL, dropL]
  | cons a L ih =>
    unfold keyL at h1 ih
    rw [List.map_cons, List.nodup_cons] at h1
    unfold dropL keyL
    by_cases e : a.k = k
    · rw [List.eraseP_cons_of_pos (by simpa using e)]
      rw [e] at h1
      exact h1.1
    · rw [List.eraseP_cons_of_neg (by simpa using e), List.map_cons, List.mem_cons]
      rintro (h | h)
      · exact e h.symm
      · exact ih h1.2 h
theorem LOk.put (h : LOk room L) (hx : x.Ok) (hr : x.w ≤ room) : LOk room (putL room L x) := by
  have hd := h.drop x.k
  have ht : LOk room ((dropL L x.k).take (fit (room - x.w) (dropL L x.k))) := hd.sub (List.take_sublist _ _)
  refine ⟨h.r0, h.r1, fun y hy => ?_, ?_, ?_⟩
  · rcases List.mem_cons.1 hy with e | e
    · rw [e]; exact hx
    · exact ht.ok y e
  · show (x.k :: keyL ((dropL L x.k).take (fit (room - x.w) (dropL L x.k)))).Nodup
    refine List.nodup_cons.2 ⟨fun hm => dropL_out (k := x.k) h.one ?_, ht.one⟩
    exact (List.Sublist.map _ (List.take_sublist _ _)).subset hm
  · unfold putL
    rw [sumL_cons]
    have := fit_sum (lim := room - x.w) (L := dropL L x.k) (by omega)
    omega
theorem sumL_drop (h : findL L k = some x) : sumL (dropL L k) = sumL L - x.w := by
  induction L with
  | nil => cases h
  | cons a L ih =>
    unfold findL at h
    by_cases e : a.k = k
    · rw [List.find?_cons_of_pos (by simpa using e)] at h
      injection h with h
      unfold dropL
      rw [List.eraseP_cons_of_pos (by simpa using e), sumL_cons, h]
      omega
    · rw [List.find?_cons_of_neg (by simpa using e)] at h
      unfold dropL
      rw [List.eraseP_cons_of_neg (by simpa using e), sumL_cons, sumL_cons]
      have := ih h
      unfold dropL at this
      omega
theorem LOk.first (h : LOk room L) (hf : findL L k = some x) : LOk room (x :: dropL L k) := by
  have hd := h.drop k
  obtain ⟨h1, h2⟩ := findL_some hf
  refine ⟨h.r0, h.r1, fun y hy => ?_, ?_, ?_⟩
  · rcases List.mem_cons.1 hy with e | e
    · rw [e]; exact h.ok x h1
    · exact hd.ok y e
  · refine List.nodup_cons.2 ⟨?_, hd.one⟩
    show x.k ∉ keyL (dropL L k)
    rw [h2]
    exact dropL_out h.one
  · rw [sumL_cons, sumL_drop hf]
    have := h.sum
    omega
theorem LOk.get (h : LOk room L) (k now : Int) : LOk room (getL L k now) := by
  unfold getL
  split
  · exact h
  · rename_i x hf
    split
    · exact h.first hf
    · exact h.drop k
theorem LOk.stay (h : LOk room L) (now : Int) : LOk room (stayL L now) := h.sub List.filter_sublist
theorem dropL_len : (dropL L k).length ≤ L.length := dropL_sub.length_le
theorem putL_len (room : Int) (L : List Rx) (x : Rx) : (putL room L x).length ≤ L.length + 1 := by
  unfold putL
  have := dropL_len (L := L) (k := x.k)
  rw [List.length_cons, List.length_take]
  omega
theorem getL_len (L : List Rx) (k now : Int) : (getL L k now).length ≤ L.length := by
  unfold getL
  split
  · exact Nat.le_refl _
  · rename_i x hf
    have h1 : (dropL L k).length < L.length := by
      unfold dropL
      rw [List.length_eraseP, if_pos]
      · have : 0 < L.length := List.length_pos_of_mem (findL_some hf).1
        omega
      · exact List.any_eq_true.2 ⟨x, (findL_some hf).1, decide_eq_true (findL_some hf).2⟩
    split
    · simp; omega
    · omega
theorem stayL_len (L : List Rx) (now : Int) : (stayL L now).length ≤ L.length := List.filter_sublist.length_le


section
variable {l a b : List Nat} {pf nf : Nat → Option Nat} {e s c q p j : Nat} {f : Nat → Rx}
theorem Rg.rots (h : Rg (a ++ b) pf nf) : Rg (b ++ a) pf nf := by
  induction a generalizing b with
  | nil => simpa using h
  | cons x a ih =>
    have h1 : Rg ((a ++ b) ++ [x]) pf nf := Rg.rot h
    rw [List.append_assoc] at h1
    have := ih h1
    rw [List.append_assoc] at this
    exact this
/-- s stands behind e, ahead of all others -/
theorem Rg.lead (hn : (e :: l).Nodup) (hs : s ∉ e :: l) (h : Rg (e :: l) pf nf) (hq : nf e = some q) :
    Rg (e :: s :: l) (upd (upd pf s (some e)) q (some s)) (upd (upd nf s (some q)) e (some s)) := by
  have h0 : (l ++ [e])[0]? = some q := by
    rw [← hq, (h 0 e rfl).1]
    cases l with
    | nil => rfl
    | cons y l => unfold nx; rw [if_neg (by simp)]; rfl
  have hz : (l ++ [e])[(l ++ [e]).length - 1]? = some e := by simp
  have hn' : (l ++ [e]).Nodup := by
    rw [List.nodup_cons] at hn
    refine List.nodup_append.2 ⟨hn.2, by simp, fun a ha b hb => ?_⟩
    rw [List.mem_singleton.1 hb]
    exact fun x => hn.1 (x ▸ ha)
  have hs' : s ∉ l ++ [e] := fun x => hs (by rcases List.mem_append.1 x with y | y; exact List.mem_cons_of_mem _ y; rw [List.mem_singleton.1 y]; exact List.mem_cons_self)
  have h1 := Rg.join hn' hs' h0 hz (Rg.rot h)
  rw [List.append_assoc] at h1
  exact Rg.rots h1
theorem erase_cons (e : Nat) (l : List Nat) (j : Nat) : (e :: l).eraseIdx (j + 1) = e :: l.eraseIdx j := rfl
theorem map_eraseD (hk : ∀ b ∈ l, ∀ c ∈ l, (f b).k = (f c).k → b = c) (hj : l[j]? = some c) (hn : l.Nodup) : (l.eraseIdx j).map f = dropL (l.map f) (f c).k := by
  induction l generalizing j with
  | nil => simp at hj
  | cons y l ih =>
    cases j with
    | zero =>
      simp only [List.getElem?_cons_zero, Option.some.injEq] at hj
      subst hj
      unfold dropL
      rw [List.map_cons, List.eraseP_cons_of_pos (by simp)]
      rfl
    | succ j =>
      rw [List.getElem?_cons_succ] at hj
      have hy : (f y).k ≠ (f c).k := by
        intro e
        have := hk y List.mem_cons_self c (List.mem_cons_of_mem _ (List.mem_of_getElem? hj)) e
        exact (List.nodup_cons.1 hn).1 (this ▸ List.mem_of_getElem? hj)
      unfold dropL
      rw [List.eraseIdx_cons_succ, List.map_cons, List.map_cons, List.eraseP_cons_of_neg (by simpa using hy)]
      have := ih (fun x hx y hy => hk x (List.mem_cons_of_mem _ hx) y (List.mem_cons_of_mem _ hy)) hj (List.nodup_cons.1 hn).2
      unfold dropL at this
      rw [this]
theorem find_fk (k : Int) : findL (l.map f) k = (fk l (fun b => (f b).k) k).map f := by
  unfold findL fk
  induction l with
  | nil => rfl
  | cons y l ih =>
    rw [List.map_cons, List.find?_cons, List.find?_cons]
    cases decide ((f y).k = k) with
    | true => rfl
    | false => exact ih
theorem keyL_map : keyL (l.map f) = l.map (fun b => (f b).k) := by unfold keyL; rw [List.map_map]; rfl
theorem inj_of_nodup (h : (keyL (l.map f)).Nodup) : ∀ b ∈ l, ∀ c ∈ l, (f b).k = (f c).k → b = c := by
  rw [keyL_map] at h
  induction l with
  | nil => intro b hb; simp at hb
  | cons y l ih =>
    rw [List.map_cons, List.nodup_cons] at h
    intro b hb c hc e
    rcases List.mem_cons.1 hb with hb | hb <;> rcases List.mem_cons.1 hc with hc | hc
    · rw [hb, hc]
    · exact absurd (List.mem_map.2 ⟨c, hc, by rw [← e, hb]⟩) h.1
    · exact absurd (List.mem_map.2 ⟨b, hb, by rw [e, hc]⟩) h.1
    · exact ih h.2 b hb c hc e
theorem fk_cons {x : Rx} (hs : s ∉ l) : fk (s :: l) (fun b => (upd f s x b).k) = setK (fk l (fun b => (f b).k)) x.k (some s) := by
  funext k'
  unfold setK
  show (s :: l).find? _ = _
  rw [List.find?_cons]
  have e0 : (upd f s x s).k = x.k := by rw [upd_same]
  have e1 : ∀ k', l.find? (fun b => decide ((upd f s x b).k = k')) = fk l (fun b => (f b).k) k' := by
    intro k'
    unfold fk
    induction l with
    | nil => rfl
    | cons y l ih =>
      rw [List.find?_cons, List.find?_cons, upd_other _ _ (fun e => hs (by rw [e]; exact List.mem_cons_self)), ih (fun h => hs (List.mem_cons_of_mem _ h))]
  show (match decide ((upd f s x s).k = k') with | true => some s | false => l.find? (fun b => decide ((upd f s x b).k = k'))) = _
  rw [e0]
  by_cases e : k' = x.k
  · rw [if_pos e, e]
    simp
  · rw [if_neg e, decide_eq_false (fun h => e h.symm)]
    exact e1 k'
theorem fk_front (hk : ∀ b ∈ l, ∀ c ∈ l, (f b).k = (f c).k → b = c) (hn : l.Nodup) (hj : l[j]? = some c) : fk (c :: l.eraseIdx j) (fun b => (f b).k) = fk l (fun b => (f b).k) := by
  funext k'
  have h1 := congrFun (fk_erase (kf := fun b => (f b).k) hk hn hj rfl) k'
  unfold setK at h1
  show (c :: l.eraseIdx j).find? _ = _
  rw [List.find?_cons]
  show (match decide ((f c).k = k') with | true => some c | false => (l.eraseIdx j).find? (fun b => decide ((f b).k = k'))) = _
  by_cases e : (f c).k = k'
  · rw [decide_eq_true e]
    exact (fk_eq hk (List.mem_of_getElem? hj) e).symm
  · rw [decide_eq_false e]
    rw [if_neg (fun h => e h.symm)] at h1
    exact h1
theorem upd_self (f : Nat → Rx) (b : Nat) : upd f b (f b) = f := by
  funext c
  unfold upd
  split
  · rename_i e; rw [e]
  · rfl
theorem take_eraseIdx (l : List Nat) (m : Nat) (hm : m < l.length) : (l.take (m + 1)).eraseIdx m = l.take m := by
  have hl : (l.take m).length = m := by rw [List.length_take]; omega
  rw [List.take_add_one, List.getElem?_eq_getElem hm, Option.toList_some, List.eraseIdx_append_of_length_le (by omega), hl, Nat.sub_self, List.eraseIdx_cons_zero, List.append_nil]
end
end Go.Proofs.YthjeeianlgkaaaaDoor
