/-
  A list of bytes of the call's own; append onto it. Of whatever program that has the types of bytes.
-/
import Derived.Test.YtnocalkloinbbaaDoorLists
import Derived.Test.YtnocalkloinbbaaDoorChecked
import Derived.Test.YtnocalkloinbbaaDoorBase
namespace Go.Proofs.YtnocalkloinbbaaDoor
open Go.RowKit

/-- the bytes ns, as values -/
def bv (ns : List Int) : List Value := ns.map (Value.int .u8)
theorem bv_length (ns : List Int) : (bv ns).length = ns.length := by simp [bv]
theorem bv_append (a b : List Int) : bv (a ++ b) = bv a ++ bv b := by simp [bv]
theorem bv_one (ns : List Int) : ∀ u ∈ bv ns, u.oneCell' = true := by
  intro u hu
  obtain ⟨n, _, rfl⟩ := List.mem_map.1 hu
  rfl
/-- a row of bytes of the call's own, in a block that is not below B -/
def OwnB (B : Nat) (w : World) (v : Value) (ns : List Int) : Prop := w.ownsRow B 5 1 v ns.length (bv ns)
theorem OwnB.holds {B : Nat} {w : World} {v : Value} {ns : List Int} (h : OwnB B w v ns) : Holds .u8 w v ns := by
  have h' : w.ownsRow B 5 1 v (bv ns).length (bv ns) := by rw [bv_length]; exact h
  obtain ⟨⟨a, c, rfl, hlc, hc⟩, _⟩ := owns_reads h'
  refine ⟨a, _, c, rfl, (bv_length ns).symm, fun i hi => ?_⟩
  rw [bv_length] at hi
  obtain ⟨x, hx, _, hce⟩ := hc i (.int .u8 (ns.getD i 0)) (by simp [bv, List.getD, hi])
  exact ⟨x, hx, hce⟩
theorem OwnB.shape {B : Nat} {w : World} {v : Value} {ns : List Int} (h : OwnB B w v ns) : ∃ p c, v = .slice p ns.length c := by
  obtain ⟨p, l, c, rfl, hl, _⟩ := h.holds
  exact ⟨p, c, by rw [hl]⟩
/-- it stays where the blocks that are there stay -/
theorem OwnB.later {B : Nat} {w w' : World} {v : Value} {ns : List Int} (h : OwnB B w v ns) (hb : Below w.heap.size w w') : OwnB B w' v ns :=
  owns_later h (Keeps.ofBelow (S := Nowhere) hb) (fun _ _ x => x)
theorem OwnB.mono {B B' : Nat} {w : World} {v : Value} {ns : List Int} (h : OwnB B w v ns) (hB : B' ≤ B) : OwnB B' w v ns := by
  refine ⟨h.1, ?_⟩
  rcases h.2 with h0 | ⟨g, cap, cur, rfl, hb, rest⟩
  · exact .inl h0
  · exact .inr ⟨g, cap, cur, rfl, Nat.le_trans hB hb, rest⟩
/-- a slice of bytes that can be read -/
def Rd (w : World) (v : Value) (ns : List Int) : Prop := ReadsOff Nowhere w v (bv ns) ∧ NilOk v
theorem Rd.later {w w' : World} {v : Value} {ns : List Int} (h : Rd w v ns) (hb : Below w.heap.size w w') : Rd w' v ns :=
  ⟨(h.1.later (Keeps.ofBelow (S := Nowhere) hb)).mono (fun _ x _ => x.elim), h.2⟩
theorem Rd.holds {w : World} {v : Value} {ns : List Int} (h : Rd w v ns) : Holds .u8 w v ns := by
  obtain ⟨⟨a, c, rfl, hlc, hc⟩, _⟩ := h
  refine ⟨a, _, c, rfl, (bv_length ns).symm, fun i hi => ?_⟩
  rw [bv_length] at hi
  obtain ⟨x, hx, _, hce⟩ := hc i (.int .u8 (ns.getD i 0)) (by simp [bv, List.getD, hi])
  exact ⟨x, hx, hce⟩
theorem OwnB.rd {B : Nat} {w : World} {v : Value} {ns : List Int} (h : OwnB B w v ns) : Rd w v ns := by
  have h' : w.ownsRow B 5 1 v (bv ns).length (bv ns) := by rw [bv_length]; exact h
  obtain ⟨h1, h2⟩ := owns_reads h'
  exact ⟨h1.mono (fun _ x _ => x.elim), h2⟩
theorem Rd.shape {w : World} {v : Value} {ns : List Int} (h : Rd w v ns) : ∃ p c, v = .slice p ns.length c := by
  obtain ⟨⟨a, c, rfl, _⟩, _⟩ := h
  exact ⟨a, c, by rw [bv_length]⟩
theorem u8info : (Tryd.prog.info? 5).map (fun i => (i.zero, i.size, i.bytes)) = some (some (.int .u8 0), 1, 1) := by kernel_rfl
/-- append(v, sv...) -/
theorem wpList_appendB {W : World} {ops : Array Oper} {rest : List Oper} {o : Oper} {a : Act} {Q : Exit → Act → World → Prop} (hgd : o.guard = none) (s x : Operand)
    (ho : o.op = .call { callee := .builtin .append, args := #[s, x], argTypes := #[29, 29] }) (B : Nat) (v sv : Value) (ns ms : List Int) (hown : OwnB B W v ns) (hr : Rd W sv ms)
    (hb : ns.length + ms.length ≤ 140737488355328) (hB : B ≤ W.heap.size) (hs : a.eval s = v) (hx : a.eval x = sv)
    (h : ∀ v' w', Aside (OwnB B w' v' (ns ++ ms)) → Aside (Below B W w') → wpList Tryd.prog ops Q rest (a.put o.dst v') w') : wpList Tryd.prog ops Q (o :: rest) a W := by
  obtain ⟨i, hi, hz0, hz1, hz2⟩ := info_parts u8info
  have hown' : W.ownsRow B 5 1 v (bv ns).length (bv ns) := by rw [bv_length]; exact hown
  obtain ⟨v', w', run, o', g'⟩ := run_appendK (P := Tryd.prog) W B 29 5 i _ 1 Tryd.underlying29 hi hz0 hz1 hz2 rfl v (bv ns) hown' sv (bv ms) hr.1 hr.2 (bv_one ms) (by rw [bv_length, bv_length]; omega) (by rw [bv_length, bv_length]; unfold maxLen; omega) hB
  refine wpList_appendK hgd s x 29 ho v sv v' w' hs hx run (h v' w' ⟨?_⟩ ⟨?_⟩)
  · rw [← bv_append, bv_length] at o'
    exact o'
  · refine (grown_keeps g').below hB (fun k hk => ?_)
    exact owns_base hown k hk
end Go.Proofs.YtnocalkloinbbaaDoor
