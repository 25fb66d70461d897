/-
  Append, told apart: into the room there was, or into a new block. Rows by owner. Of whatever program.
-/
import Derived.Test.YtnocalkloinbbaaDoorBase
import Derived.Test.YtnocalkloinbbaaDoorSnA
namespace Go.Proofs.YtnocalkloinbbaaDoor
open Go.RowKit

def Split (v v' : Value) (m : Nat) (w w' : World) : Prop :=
  (∃ g l c, v = .slice (some ⟨g, 0, none⟩) l c ∧ v' = .slice (some ⟨g, 0, none⟩) (l + m) c ∧ Keeps (fun b => b = g) w w') ∨ (Keeps Nowhere w w' ∧ ∀ b, v'.ownBlock = some b → w.heap.size ≤ b)
theorem run_appendS {P : Program} (w : World) (t e : TypeId) (i : TypeInfo) (z : Value) (k bytes : Nat) (ht : P.underlying t = some (.slice e)) (hi : P.info? e = some i) (hz : i.zero = some z) (hsize : i.size = k) (hby : i.bytes = bytes)
    (hzs : z.cells.size = k) (hk : 0 < k) (v : Value) (n : Nat) (xs : List Value) (hown : w.ownsRow 0 e k v n xs) (sv : Value) (m : Nat) (ys : List Value) (hm : 0 < m) (hr : ReadsK k w sv m ys) (h1 : ∀ u ∈ ys, u.oneCell' = true)
    (hb : (n + m) * bytes ≤ 140737488355328) (h63 : n + m ≤ maxLen) :
    ∃ v' w', (∀ ty, (Builtin.append_ #[t, t] ty #[v, sv]).run P w = .ok v' w') ∧ w'.ownsRow 0 e k v' (n + m) (xs ++ ys) ∧ Split v v' m w w' := by
  obtain ⟨v', w', run, o, g, b⟩ := run_appendR (P := P) w 0 t e i z k bytes ht hi hz hsize hby hzs hk v n xs hown sv m ys hr h1 hb h63 (Nat.zero_le _)
  refine ⟨v', w', run, o, ?_⟩
  obtain ⟨hl, a, c, rfl, hlc, _, hnil, hc⟩ := hr
  rcases id hown.2 with ⟨rfl, h0⟩ | ⟨gb, cap, cur, rfl, hb0, hg, hnc, hcm, hcs, htake⟩
  · refine .inr ⟨(grown_keeps g).mono (fun b e _ => by simp [Value.ownBlock] at e), fun b' hb' => ?_⟩
    rcases b b' hb' with h | h
    · simp [Value.ownBlock] at h
    · exact h
  · cases a with
    | none => have := hnil rfl; omega
    | some ad =>
      have hc' : ∀ j u, ys[j]? = some u → w.cell? (ad.add j) = some u := fun j u hj => by
        obtain ⟨g, o, hx, hce⟩ := hc j u hj
        cases hx
        rw [add_none]
        exact hce
      have hsmall : n + m ≤ 9223372036854775807 := by simp only [maxLen] at h63; omega
      subst hsize hby
      by_cases hroom : n + m ≤ cap
      · have hr := run_append_room (P := P) w t 0 e i ht hi gb n cap cur hg ad m c ys hl hc' h1 hroom (by rw [hl, hcs, ← Nat.add_mul]; exact Nat.mul_le_mul_right _ hroom)
        rw [run 0] at hr
        injection hr with e1 _
        subst e1
        exact .inl ⟨gb, n, cap, rfl, rfl, (grown_keeps g).mono (fun b e _ => by simpa [Value.ownBlock] using e.symm)⟩
      · have hr := run_append_grow (P := P) w t 0 e i z ht hi hz ⟨gb, 0, none⟩ n cap xs hown.1 (hown.cells (g := gb) rfl) ad m c ys hl hc' (by omega) (by omega) (growslice_fits (by omega) hb)
        rw [run 0] at hr
        injection hr with e1 e2
        subst e1 e2
        refine .inr ⟨((Keeps.refl _ _).drew).alloc _, fun b hb => ?_⟩
        simp only [Value.ownBlock, Option.some.injEq] at hb
        omega
theorem wpList_appendS {P : Program} {W : World} {ops : Array Oper} {rest : List Oper} {o : Oper} {a : Act} {Q : Exit → Act → World → Prop} (hgd : o.guard = none) (s x : Operand) (t : TypeId)
    (ho : o.op = .call { callee := .builtin .append, args := #[s, x], argTypes := #[t, t] }) (e : TypeId) (z : Value) (k bytes : Nat) (ht : P.underlying t = some (.slice e)) (hinfo : (P.info? e).map (fun i => (i.zero, i.size, i.bytes)) = some (some z, k, bytes))
    (hzs : z.cells.size = k) (h0 : 0 < k) (w : World) (hk : Keeps Nowhere w W) (v : Value) (n : Nat) (xs : List Value) (hown : w.ownsRow 0 e k v n xs) (sv : Value) (m : Nat) (ys : List Value) (hm : 0 < m) (hr : ReadsK k W sv m ys) (h1 : ∀ u ∈ ys, u.oneCell' = true)
    (hb : (n + m) * bytes ≤ 140737488355328) (h63 : n + m ≤ maxLen) (hs : a.eval s = v) (hx : a.eval x = sv)
    (h : ∀ v' w', Aside (w'.ownsRow 0 e k v' (n + m) (xs ++ ys)) → Aside (Split v v' m W w') → wpList P ops Q rest (a.put o.dst v') w') : wpList P ops Q (o :: rest) a W := by
  obtain ⟨i, hi, hz0, hz1, hz2⟩ := info_parts hinfo
  have hown' := owns_later hown hk (fun _ _ x => x)
  obtain ⟨v', w', run, o', g'⟩ := run_appendS (P := P) W t e i z k bytes ht hi hz0 hz1 hz2 hzs h0 v n xs hown' sv m ys hm hr h1 hb h63
  refine wpList_appendK hgd s x t ho _ sv v' w' hs hx run (h v' w' ⟨o'⟩ ⟨g'⟩)
/-- a row's beginning -/
theorem owns_prefix {w : World} {base : Nat} {e : TypeId} {k n m g l c : Nat} {xs ys : List Value} (h : w.ownsRow base e k (.slice (some ⟨g, 0, none⟩) l c) (n + m) (xs ++ ys)) (hx : xs.length = n * k) : w.ownsRow base e k (.slice (some ⟨g, 0, none⟩) n c) n xs := by
  refine ⟨hx, ?_⟩
  rcases h.2 with ⟨h, _⟩ | ⟨g', cap, cur, he, hb, hg, hn, hm, hs, ht⟩
  · cases h
  · injection he with e1 e2 e3
    injection e1 with e1
    injection e1 with e1
    subst e1 e2 e3
    refine .inr ⟨g, c, cur, rfl, hb, hg, by omega, hm, hs, ?_⟩
    have := congrArg (List.take (n * k)) ht
    rw [List.take_take, List.take_append_of_le_length (by omega), Nat.min_eq_left (Nat.mul_le_mul_right _ (by omega)), ← hx, List.take_length] at this
    rw [← hx]; exact this
/-- a row of one owner -/
def OwR (own : Nat → Nat) (o : Nat) (w : World) (e : TypeId) (k : Nat) (v : Value) (n : Nat) (xs : List Value) : Prop := w.ownsRow 0 e k v n xs ∧ ∀ b, v.ownBlock = some b → own b = o ∧ b < w.heap.size
variable {own own' : Nat → Nat} {w w' W : World} {o k n m : Nat} {e : TypeId} {v v' : Value} {xs ys : List Value} {I : Nat → Prop}
theorem OwR.sn (h : OwR own o w e k v n xs) (s : Sn I own w own' w') (hi : ¬ I o) : OwR own' o w' e k v n xs :=
  ⟨owns_later h.1 s.keeps (fun b hb x => hi (by rw [(h.2 b hb).1] at x; exact x)), fun b hb => ⟨(s.agree b (h.2 b hb).2).trans (h.2 b hb).1, Nat.lt_of_lt_of_le (h.2 b hb).2 s.keeps.size⟩⟩
theorem OwR.new {W : World} (h : w'.ownsRow W.heap.size e k v n xs) : OwR (give own W.heap.size o) o w' e k v n xs := ⟨owns_any h, fun b hb => ⟨give_new (owns_base h b hb), owns_lt h b hb⟩⟩
theorem OwR.zero : OwR own o w e k (.slice none 0 0) 0 [] := ⟨⟨by simp, .inl ⟨rfl, rfl⟩⟩, fun b hb => by cases hb⟩
/-- a row of one owner, appended to -/
theorem OwR.app (h : OwR own o w e k v n xs) (hk : Keeps Nowhere w W) (ho : w'.ownsRow 0 e k v' (n + m) ys) (sp : Split v v' m W w') : OwR (give own w.heap.size o) o w' e k v' (n + m) ys ∧ Sn (fun q => q = o) own w (give own w.heap.size o) w' := by
  rcases sp with ⟨g, l, c, rfl, rfl, K⟩ | ⟨K, hb⟩
  · obtain ⟨h1, h2⟩ := h.2 g rfl
    refine ⟨⟨ho, fun b hb => ?_⟩, ⟨fun _ h => give_old h, hk.any.trans (K.mono ?_)⟩⟩
    · simp only [Value.ownBlock, Option.some.injEq] at hb
      subst hb
      exact ⟨(give_old h2).trans h1, Nat.lt_of_lt_of_le h2 (Nat.le_trans hk.size K.size)⟩
    · intro b e _
      rw [e]; exact h1
  · exact ⟨⟨ho, fun b x => ⟨give_new (Nat.le_trans hk.size (hb b x)), owns_lt ho b x⟩⟩, ⟨fun _ h => give_old h, (hk.trans K).any⟩⟩
/-- and the row as it was still stands -/
theorem OwR.stays (h : OwR own o w e k v n xs) (hx : xs.length = n * k) (hk : Keeps Nowhere w W) (ho : w'.ownsRow 0 e k v' (n + m) (xs ++ ys)) (sp : Split v v' m W w') : OwR (give own w.heap.size o) o w' e k v n xs := by
  rcases sp with ⟨g, l, c, rfl, rfl, K⟩ | ⟨K, hb⟩
  · obtain ⟨h1, h2⟩ := h.2 g rfl
    have hl : l = n := by
      rcases h.1.2 with ⟨x, _⟩ | ⟨g', cap, cur, he, _⟩
      · cases x
      · injection he
    subst hl
    refine ⟨owns_prefix ho hx, fun b hb => ?_⟩
    simp only [Value.ownBlock, Option.some.injEq] at hb
    subst hb
    exact ⟨(give_old h2).trans h1, Nat.lt_of_lt_of_le h2 (Nat.le_trans hk.size K.size)⟩
  · exact h.sn (I := fun _ => False) ⟨fun _ h => give_old h, (hk.trans K).any⟩ (fun x => x)
/-- a row of one owner, grown by steps out of another's: its first step may lie in the other's room -/
def Grows (own : Nat → Nat) (w : World) (e : TypeId) (k : Nat) (v : Value) (n : Nat) (xs : List Value) (o : Nat) (gv : Value) (j : Nat) (ys : List Value) : Prop :=
  w.ownsRow 0 e k gv (n + j) (xs ++ ys) ∧ ((∃ b c, v = .slice (some ⟨b, 0, none⟩) n c ∧ gv = .slice (some ⟨b, 0, none⟩) (n + j) c) ∨ ∀ b, gv.ownBlock = some b → own b = o ∧ b < w.heap.size)
theorem Grows.start (h : OwR own o w e k v n xs) (o' : Nat) : Grows own w e k v n xs o' v 0 [] := by
  refine ⟨by simpa using h.1, ?_⟩
  rcases h.1.2 with ⟨rfl, _⟩ | ⟨g', cap, cur, rfl, _⟩
  · exact .inr (fun b hb => by cases hb)
  · exact .inl ⟨g', cap, rfl, rfl⟩
theorem Grows.app {o2 j : Nat} {gv gv' : Value} {zs : List Value} (h : OwR own o w e k v n xs) (hx : xs.length = n * k) (G : Grows own w e k v n xs o2 gv j ys) (ne : o ≠ o2) (hk : Keeps Nowhere w W) (ho : w'.ownsRow 0 e k gv' (n + j + 1) (xs ++ ys ++ zs)) (sp : Split gv gv' 1 W w') :
    OwR (give own w.heap.size o2) o w' e k v n xs ∧ Grows (give own w.heap.size o2) w' e k v n xs o2 gv' (j + 1) (ys ++ zs) ∧ Sn (fun q => q = o2 ∨ q = o) own w (give own w.heap.size o2) w' := by
  have ho' : w'.ownsRow 0 e k gv' (n + (j + 1)) (xs ++ (ys ++ zs)) := by rw [← List.append_assoc, ← Nat.add_assoc]; exact ho
  rcases sp with ⟨g, l, c, rfl, rfl, K⟩ | ⟨K, hb⟩
  · rcases G.2 with ⟨b, c', rfl, e2⟩ | hj
    · injection e2 with e3 e4 e5
      injection e3 with e3
      injection e3 with e3
      subst e3 e4 e5
      obtain ⟨h1, h2⟩ := h.2 g rfl
      have hlt := Nat.lt_of_lt_of_le h2 (Nat.le_trans hk.size K.size)
      refine ⟨⟨owns_prefix ho' hx, fun b hb => ?_⟩, ⟨ho', .inl ⟨g, c, rfl, rfl⟩⟩, ⟨fun _ h => give_old h, hk.any.trans (K.mono ?_)⟩⟩
      · simp only [Value.ownBlock, Option.some.injEq] at hb
        subst hb
        exact ⟨(give_old h2).trans h1, hlt⟩
      · intro b e _
        rw [e]; exact .inr h1
    · obtain ⟨h1, h2⟩ := hj g rfl
      have s : Sn (fun q => q = o2) own w (give own w.heap.size o2) w' := ⟨fun _ h => give_old h, hk.any.trans (K.mono (fun b e _ => by rw [e]; exact h1))⟩
      refine ⟨h.sn s ne, ⟨ho', .inr (fun b hb => ?_)⟩, s.mono (fun _ e => .inl e)⟩
      simp only [Value.ownBlock, Option.some.injEq] at hb
      subst hb
      exact ⟨(give_old h2).trans h1, Nat.lt_of_lt_of_le h2 (Nat.le_trans hk.size K.size)⟩
  · have s : Sn (fun _ => False) own w (give own w.heap.size o2) w' := ⟨fun _ h => give_old h, (hk.trans K).any⟩
    exact ⟨h.sn s (fun x => x), ⟨ho', .inr (fun b x => ⟨give_new (Nat.le_trans hk.size (hb b x)), owns_lt ho b x⟩)⟩, s.mono (fun _ e => e.elim)⟩
end Go.Proofs.YtnocalkloinbbaaDoor
