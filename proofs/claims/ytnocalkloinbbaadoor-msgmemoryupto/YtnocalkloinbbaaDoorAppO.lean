/-
  append onto a row of bytes that somebody owns: which blocks it changes, where the row lies behind it. Of whatever program that has the types of bytes.
-/
import Derived.Test.YtnocalkloinbbaaDoorOwnB
namespace Go.Proofs.YtnocalkloinbbaaDoor
open Go.RowKit

theorem owns_val {w : World} {base : Nat} {e : TypeId} {k n : Nat} {v : Value} {xs : List Value} (h : w.ownsRow base e k v n xs) : ∃ q c, v = .slice q n c := by
  rcases h.2 with ⟨rfl, rfl⟩ | ⟨g, cap, cur, rfl, _⟩
  · exact ⟨_, _, rfl⟩
  · exact ⟨_, _, rfl⟩
theorem run_appendO (W : World) (v sv : Value) (ns ms : List Int) (hown : W.ownsRow 0 5 1 v ns.length (bv ns)) (hr : Rd W sv ms) (hb : ns.length + ms.length ≤ 140737488355328) :
    ∃ v' w', (∀ ty, (Builtin.append_ #[29, 29] ty #[v, sv]).run Tryd.prog W = .ok v' w') ∧ w'.ownsRow 0 5 1 v' (ns ++ ms).length (bv (ns ++ ms)) ∧ Keeps (fun b => v.ownBlock = some b) W w' ∧ ∀ b, v'.ownBlock = some b → v.ownBlock = some b ∨ W.heap.size ≤ b := by
  obtain ⟨i, hi, hz0, hz1, hz2⟩ := info_parts u8info
  have hown' : W.ownsRow 0 5 1 v (bv ns).length (bv ns) := by rw [bv_length]; exact hown
  obtain ⟨v', w', run, o', g'⟩ := run_appendK (P := Tryd.prog) W 0 29 5 i _ 1 Tryd.underlying29 hi hz0 hz1 hz2 rfl v (bv ns) hown' sv (bv ms) hr.1 hr.2 (bv_one ms) (by rw [bv_length, bv_length]; omega) (by rw [bv_length, bv_length]; unfold maxLen; omega) (Nat.zero_le _)
  refine ⟨v', w', run, ?_, grown_keeps g', ?_⟩
  · rw [← bv_append, bv_length] at o'
    exact o'
  · obtain ⟨⟨ad, c, rfl, hlc, hc⟩, hn⟩ := hr
    cases ad with
    | none =>
      obtain rfl := hn _ _ rfl
      have := run 0
      rw [show (bv ms).length = 0 by omega] at this
      rw [run_append_owned_none (P := Tryd.prog) (w := W) 0 29 0 5 i 1 Tryd.underlying29 hi v (bv ns).length (bv ns) hown'] at this
      injection this with e1 _
      subst e1
      exact fun b hb => .inl hb
    | some ad =>
      exact append_block W 0 29 0 5 i _ 1 1 Tryd.underlying29 hi hz0 hz1 hz2 rfl (by decide) v (bv ns).length (bv ns) hown' ad (bv ms).length c (bv ms) (by simp) (fun j u hj => by
        obtain ⟨x, hx, _, hce⟩ := hc j u hj
        cases hx
        exact hce) (bv_one ms) (by rw [bv_length, bv_length]; omega) (by rw [bv_length, bv_length]; unfold maxLen; omega) v' w' (run 0)
/-- append onto a row of bytes as a step of a region: which blocks it changes, and where the row lies behind it -/
theorem step_appendO {W : World} {ops : Array Oper} {o : Oper} {a : Act} {K : Act → World → Prop} {Q : Exit → Act → World → Prop} {E : Prop} (tmp : Tmp) (hdst : o.dst = some tmp) (hgd : o.guard = none) (s x : Operand)
    (ho : o.op = .call { callee := .builtin .append, args := #[s, x], argTypes := #[29, 29] }) (v sv : Value) (ns ms : List Int) (hown : W.ownsRow 0 5 1 v ns.length (bv ns)) (hr : Rd W sv ms)
    (hb : ns.length + ms.length ≤ 140737488355328) (hs : a.eval s = v) (hx : a.eval x = sv)
    (h : ∀ q' l' c' w', Aside (w'.ownsRow 0 5 1 (.slice q' l' c') (ns ++ ms).length (bv (ns ++ ms))) → Aside (Keeps (fun b => v.ownBlock = some b) W w') → Aside (∀ b, (Value.slice q' l' c').ownBlock = some b → v.ownBlock = some b ∨ W.heap.size ≤ b) → K (a.put (some tmp) (.slice q' l' c')) w') : if Region.wanted o (yielded ops a.tmps) = true then Oper.wp Tryd.prog o a W K Q else E := by
  obtain ⟨v', w', run, o', k', b'⟩ := run_appendO W v sv ns ms hown hr hb
  obtain ⟨q', c', rfl⟩ := owns_val o'
  exact step_appendK tmp hdst hgd s x 29 ho v sv _ w' hs hx run (h _ _ _ w' ⟨o'⟩ ⟨k'⟩ ⟨b'⟩)
theorem wpList_appendO {W : World} {ops : Array Oper} {rest : List Oper} {o : Oper} {a : Act} {Q : Exit → Act → World → Prop} (hgd : o.guard = none) (s x : Operand)
    (ho : o.op = .call { callee := .builtin .append, args := #[s, x], argTypes := #[29, 29] }) (v sv : Value) (ns ms : List Int) (hown : W.ownsRow 0 5 1 v ns.length (bv ns)) (hr : Rd W sv ms)
    (hb : ns.length + ms.length ≤ 140737488355328) (hs : a.eval s = v) (hx : a.eval x = sv)
    (h : ∀ q' l' c' w', Aside (w'.ownsRow 0 5 1 (.slice q' l' c') (ns ++ ms).length (bv (ns ++ ms))) → Aside (Keeps (fun b => v.ownBlock = some b) W w') → Aside (∀ b, (Value.slice q' l' c').ownBlock = some b → v.ownBlock = some b ∨ W.heap.size ≤ b) → wpList Tryd.prog ops Q rest (a.put o.dst (.slice q' l' c')) w') : wpList Tryd.prog ops Q (o :: rest) a W := by
  obtain ⟨v', w', run, o', k', b'⟩ := run_appendO W v sv ns ms hown hr hb
  obtain ⟨q', c', rfl⟩ := owns_val o'
  exact wpList_appendK hgd s x 29 ho v sv _ w' hs hx run (h _ _ _ w' ⟨o'⟩ ⟨k'⟩ ⟨b'⟩)

theorem bv_take (ns : List Int) (k : Nat) : bv (ns.take k) = (bv ns).take k := by simp [bv]
theorem bv_drop (ns : List Int) (k : Nat) : bv (ns.drop k) = (bv ns).drop k := by simp [bv]
end Go.Proofs.YtnocalkloinbbaaDoor
