/-
  A list of strings of the call's own; append onto it. Of whatever program that has the types of strings.
-/
import Derived.Test.YtbbldkldgjmmgaaGreatDoorBase
import Derived.Test.YtbbldkldgjmmgaaGreatDoorNms
namespace Go.Proofs.YtbbldkldgjmmgaaGreatDoor
open Go.RowKit

/-- the bytes ns, as values -/
def strv (ns : List ByteArray) : List Value := ns.map Value.string
theorem strv_length (ns : List ByteArray) : (strv ns).length = ns.length := by simp [strv]
theorem strv_append (a b : List ByteArray) : strv (a ++ b) = strv a ++ strv b := by simp [strv]
theorem strv_one (ns : List ByteArray) : ∀ u ∈ strv ns, u.oneCell' = true := by
  intro u hu
  obtain ⟨n, _, rfl⟩ := List.mem_map.1 hu
  rfl
/-- a row of bytes of the call's own, in a block that is not below B -/
def OwnS (B : Nat) (w : World) (v : Value) (ns : List ByteArray) : Prop := w.ownsRow B 9 1 v ns.length (strv ns)
theorem OwnS.shape {B : Nat} {w : World} {v : Value} {ns : List ByteArray} (h : OwnS B w v ns) : ∃ p c, v = .slice p ns.length c := by
  rcases id h.2 with ⟨e, h0⟩ | ⟨g, cap, cur, e, _⟩
  · exact ⟨none, 0, by rw [e, h0]⟩
  · exact ⟨_, _, e⟩
/-- it stays where the blocks that are there stay -/
theorem OwnS.later {B : Nat} {w w' : World} {v : Value} {ns : List ByteArray} (h : OwnS B w v ns) (hb : Below w.heap.size w w') : OwnS B w' v ns :=
  owns_later h (Keeps.ofBelow (S := Nowhere) hb) (fun _ _ x => x)
theorem OwnS.mono {B B' : Nat} {w : World} {v : Value} {ns : List ByteArray} (h : OwnS B w v ns) (hB : B' ≤ B) : OwnS B' w v ns := by
  refine ⟨h.1, ?_⟩
  rcases h.2 with h0 | ⟨g, cap, cur, rfl, hb, rest⟩
  · exact .inl h0
  · exact .inr ⟨g, cap, cur, rfl, Nat.le_trans hB hb, rest⟩
/-- a slice of bytes that can be read -/
def RdStr (w : World) (v : Value) (ns : List ByteArray) : Prop := ReadsOff Nowhere w v (strv ns) ∧ NilOk v
theorem RdStr.later {w w' : World} {v : Value} {ns : List ByteArray} (h : RdStr w v ns) (hb : Below w.heap.size w w') : RdStr w' v ns :=
  ⟨(h.1.later (Keeps.ofBelow (S := Nowhere) hb)).mono (fun _ x _ => x.elim), h.2⟩
theorem OwnS.rd {B : Nat} {w : World} {v : Value} {ns : List ByteArray} (h : OwnS B w v ns) : RdStr w v ns := by
  have h' : w.ownsRow B 9 1 v (strv ns).length (strv ns) := by rw [strv_length]; exact h
  obtain ⟨h1, h2⟩ := owns_reads h'
  exact ⟨h1.mono (fun _ x _ => x.elim), h2⟩
theorem RdStr.shape {w : World} {v : Value} {ns : List ByteArray} (h : RdStr w v ns) : ∃ p c, v = .slice p ns.length c := by
  obtain ⟨⟨a, c, rfl, _⟩, _⟩ := h
  exact ⟨a, c, by rw [strv_length]⟩
theorem strInfo : (Tryz.prog.info? 9).map (fun i => (i.zero, i.size, i.bytes)) = some (some (.string ByteArray.empty), 1, 16) := by kernel_rfl
/-- append(v, sv...) -/
theorem wpList_appendS {W : World} {ops : Array Oper} {rest : List Oper} {o : Oper} {a : Act} {Q : Exit → Act → World → Prop} (hgd : o.guard = none) (s x : Operand)
    (ho : o.op = .call { callee := .builtin .append, args := #[s, x], argTypes := #[52, 52] }) (B : Nat) (v sv : Value) (ns ms : List ByteArray) (hown : OwnS B W v ns) (hr : RdStr W sv ms)
    (hb : (ns.length + ms.length) * 16 ≤ 140737488355328) (hB : B ≤ W.heap.size) (hs : a.eval s = v) (hx : a.eval x = sv)
    (h : ∀ v' w', Aside (OwnS B w' v' (ns ++ ms)) → Aside (Below B W w') → wpList Tryz.prog ops Q rest (a.put o.dst v') w') : wpList Tryz.prog ops Q (o :: rest) a W := by
  obtain ⟨i, hi, hz0, hz1, hz2⟩ := info_parts strInfo
  have hown' : W.ownsRow B 9 1 v (strv ns).length (strv ns) := by rw [strv_length]; exact hown
  obtain ⟨v', w', run, o', g'⟩ := run_appendK (P := Tryz.prog) W B 52 9 i _ 16 Tryz.underlying52 hi hz0 hz1 hz2 rfl v (strv ns) hown' sv (strv ms) hr.1 hr.2 (strv_one ms) (by rw [strv_length, strv_length]; omega) (by rw [strv_length, strv_length]; unfold maxLen; omega) hB
  refine wpList_appendK hgd s x 52 ho v sv v' w' hs hx run (h v' w' ⟨?_⟩ ⟨?_⟩)
  · rw [← strv_append, strv_length] at o'
    exact o'
  · refine (grown_keeps g').below hB (fun k hk => ?_)
    exact owns_base hown k hk
theorem rd_newS (w : World) (ns : List ByteArray) (n : Nat) (hn : ns.length = n) : RdStr (w.alloc (.cells (ns.map Value.string).toArray 9)) (.slice (some ⟨w.heap.size, 0, none⟩) n n) ns := by
  subst hn
  have := reads_mark Nowhere w 9 (strv ns) (0, 0) (fun x => x)
  rw [strv_length] at this
  exact ⟨this, fun l c e => by cases e⟩
theorem own_newS {B : Nat} (w : World) (ns : List ByteArray) (n : Nat) (hn : ns.length = n) (hB : B ≤ w.heap.size) (hm : n ≤ maxLen) : OwnS B (w.alloc (.cells (ns.map Value.string).toArray 9)) (.slice (some ⟨w.heap.size, 0, none⟩) n n) ns := by
  subst hn
  refine ⟨by rw [strv_length, Nat.mul_one], .inr ⟨w.heap.size, _, _, rfl, hB, heap_alloc_new w _, Nat.le_refl _, hm, by simp, ?_⟩⟩
  simp only [strv]
  rw [List.take_of_length_le (by simp)]
/-- append as a step of a region -/
theorem step_appendS {W : World} {ops : Array Oper} {o : Oper} {a : Act} {K : Act → World → Prop} {Q : Exit → Act → World → Prop} {E : Prop} (tmp : Tmp) (hdst : o.dst = some tmp) (hgd : o.guard = none) (s x : Operand)
    (ho : o.op = .call { callee := .builtin .append, args := #[s, x], argTypes := #[52, 52] }) (B : Nat) (v sv : Value) (ns ms : List ByteArray) (hown : OwnS B W v ns) (hr : RdStr W sv ms)
    (hb : (ns.length + ms.length) * 16 ≤ 140737488355328) (hB : B ≤ W.heap.size) (hs : a.eval s = v) (hx : a.eval x = sv)
    (h : ∀ v' w', Aside (OwnS B w' v' (ns ++ ms)) → Aside (Below B W w') → K (a.put (some tmp) v') w') : if Region.wanted o (yielded ops a.tmps) = true then Oper.wp Tryz.prog o a W K Q else E := by
  obtain ⟨i, hi, hz0, hz1, hz2⟩ := info_parts strInfo
  have hown' : W.ownsRow B 9 1 v (strv ns).length (strv ns) := by rw [strv_length]; exact hown
  obtain ⟨v', w', run, o', g'⟩ := run_appendK (P := Tryz.prog) W B 52 9 i _ 16 Tryz.underlying52 hi hz0 hz1 hz2 rfl v (strv ns) hown' sv (strv ms) hr.1 hr.2 (strv_one ms) (by rw [strv_length, strv_length]; omega) (by rw [strv_length, strv_length]; unfold maxLen; omega) hB
  refine step_appendK tmp hdst hgd s x 52 ho v sv v' w' hs hx run (h v' w' ⟨?_⟩ ⟨?_⟩)
  · rw [← strv_append, strv_length] at o'
    exact o'
  · exact (grown_keeps g').below hB (fun k hk => owns_base hown k hk)

end Go.Proofs.YtbbldkldgjmmgaaGreatDoor
