/-
  FrameWrites: the walk.
-/
import Derived.Test.YtfpdllckpcjgdaaDoorTextF
import Derived.Test.YtfpdllckpcjgdaaDoorFrameH
import Derived.Test.YtfpdllckpcjgdaaDoorFrameFlags
import Derived.Test.YtfpdllckpcjgdaaDoorOpenF
namespace Go.Proofs.YtfpdllckpcjgdaaDoor
open Go.RowKit

theorem enc_bytes4 {v t f s l : Int} (hv : 0 ≤ v ∧ v ≤ 255) (ht : 0 ≤ t ∧ t ≤ 255) (hf : 0 ≤ f ∧ f ≤ 65535) (hs : 0 ≤ s ∧ s ≤ 4294967295) (hl : 0 ≤ l ∧ l ≤ 4294967295) : AreBytes (enc v t f s l) := by
  intro n hn
  simp only [enc, List.mem_append, List.mem_cons, List.not_mem_nil, or_false] at hn
  rcases hn with (((rfl | rfl) | h) | h) | h
  · exact hv
  · exact ht
  · exact be2_bytes f hf.1 hf.2 n h
  · exact be4_bytes s hs.1 hs.2 n h
  · exact be4_bytes l hl.1 hl.2 n h
theorem step_appendB3 {W : World} {ops : Array Oper} {o : Oper} {a : Act} {K : Act → World → Prop} {Q : Exit → Act → World → Prop} {E : Prop} (tmp : Tmp) (hdst : o.dst = some tmp) (hgd : o.guard = none) (s x : Operand)
    (ho : o.op = .call { callee := .builtin .append, args := #[s, x], argTypes := #[26, 26] }) (B : Nat) (v sv : Value) (ns ms : List Int) (hown : OwnB B W v ns) (hr : Rd W sv ms)
    (hb : ns.length + ms.length ≤ 140737488355328) (hB : B ≤ W.heap.size) (hs : a.eval s = v) (hx : a.eval x = sv)
    (h : ∀ p l c w', Aside (OwnB B w' (.slice p l c) (ns ++ ms)) → Aside (Below B W w') → K (a.put (some tmp) (.slice p l c)) w') : if Region.wanted o (yielded ops a.tmps) = true then Oper.wp Tryd.prog o a W K Q else E := by
  refine step_appendB tmp hdst hgd s x ho B v sv ns ms hown hr hb hB hs hx (fun v' w' o k => ?_)
  obtain ⟨p, c, e⟩ := o.it.shape
  subst e
  exact h _ _ _ _ o k
section
variable {A : Nat → Addr} {w : World} {p : Nat} {v t f s l : Int} {d : Value} {ns : List Int}
theorem text_f (W0 : Words w) (hz : (0 ≤ v ∧ v ≤ 255) ∧ (0 ≤ t ∧ t ≤ 255) ∧ (0 ≤ f ∧ f ≤ 65535) ∧ (0 ≤ s ∧ s ≤ 4294967295) ∧ (0 ≤ l ∧ l ≤ 4294967295)) (W : World) (h : Aside (FAt A w p v t f s l d ns W)) :
    Calls Tryd.prog 7 #[hdr v t f s l] W fun e w' => e = .returned (.string (str (txB v t f s l))) ∧ Aside (FAt A w p v t f s l d ns w') :=
  (text_any v t f s l hz.1.1 hz.1.2 hz.2.1.1 hz.2.1.2 hz.2.2.1.1 hz.2.2.1.2 hz.2.2.2.1.1 hz.2.2.2.1.2 hz.2.2.2.2.1 hz.2.2.2.2.2 W (W0.later h.it.bB)).mono (by rintro e w' ⟨rfl, hb⟩; exact ⟨rfl, ⟨h.it.later hb⟩⟩)
theorem FAt.ownE {w1 : World} (h : Aside (FAt A w p v t f s l d ns w1)) : OwnB w1.heap.size (w1.alloc (.cells #[] 5)) (.slice (some ⟨w1.heap.size, 0, none⟩) 0 0) [] ∧ Rd (w1.alloc (.cells #[] 5)) d ns :=
  ⟨own_new w1 [] 0 rfl (Nat.le_refl _) (Nat.zero_le _), h.it.rR.later (alloc_below _ _)⟩
theorem FAt.stepE {w1 w2 : World} {o : Obj} {x : Value} (o2 : Aside (OwnB w1.heap.size w2 x ([] ++ ns))) (k2 : Aside (Below w1.heap.size (w1.alloc o) w2)) (h : Aside (FAt A w p v t f s l d ns w1)) :
    Aside (FAt A w p v t f s l d ns w2) ∧ Aside (Rd w2 x ns) := ⟨⟨h.it.later ((alloc_below _ _).trans k2.it)⟩, ⟨o2.it.rd⟩⟩
theorem bytes_f (x : Value) (hn : ns.length ≤ 140737488351300) (hz : (0 ≤ v ∧ v ≤ 255) ∧ (0 ≤ t ∧ t ≤ 255) ∧ (0 ≤ f ∧ f ≤ 65535) ∧ (0 ≤ s ∧ s ≤ 4294967295) ∧ (0 ≤ l ∧ l ≤ 4294967295)) (W : World) (h : Aside (FAt A w p v t f s l d ns W)) (hr : Aside (Rd W x ns)) :
    Calls Tryd.prog 8 #[frm v t f s l x] W fun e w' => ∃ y ev, e = .returned (.tuple #[y, ev]) ∧ Aside (Coded A ev (bE t l ns.length)) ∧ Aside (Rd w' y (bO v t f s l ns)) ∧ Aside (FAt A w p v t f s l d ns w') :=
  (bytes_any v t f s l x ns W h.it.sS hr.it hn hz.2.2.1.1 hz.2.2.1.2 hz.2.2.2.1.1 hz.2.2.2.1.2 hz.2.2.2.2.1 hz.2.2.2.2.2).mono (by rintro e w' ⟨y, ev, rfl, V, O, hb⟩; exact ⟨y, ev, rfl, V, ⟨O.it.rd⟩, ⟨h.it.later hb⟩⟩)
theorem code_f {ev : Value} {k : Int} (V : Aside (Coded A ev k)) (W : World) (h : Aside (FAt A w p v t f s l d ns W)) :
    Calls Tryd.prog 11 #[ev] W fun e w' => e = .returned (.int .i64 k) ∧ w' = W := code_of h.it.sS V.it
theorem bO_bytes (hb : AreBytes ns) (hz : (0 ≤ v ∧ v ≤ 255) ∧ (0 ≤ t ∧ t ≤ 255) ∧ (0 ≤ f ∧ f ≤ 65535) ∧ (0 ≤ s ∧ s ≤ 4294967295) ∧ (0 ≤ l ∧ l ≤ 4294967295)) : AreBytes (bO v t f s l ns) := by
  unfold bO
  split
  · intro n hn
    rcases List.mem_append.1 hn with h | h
    · exact enc_bytes4 hz.1 hz.2.1 hz.2.2.1 hz.2.2.2.1 hz.2.2.2.2 n h
    · exact hb n h
  · intro n hn; cases hn
theorem FAt.cellsA {w1 : World} {o : Obj} (h : Aside (FAt A w p v t f s l d ns w1)) :
    (w1.alloc o).cell? ⟨p, 0, none⟩ = some (.int .u8 v) ∧ (w1.alloc o).cell? ⟨p, 1, none⟩ = some (.int .u8 t) ∧ (w1.alloc o).cell? ⟨p, 2, none⟩ = some (.int .u16 f) ∧ (w1.alloc o).cell? ⟨p, 3, none⟩ = some (.int .u32 s) ∧ (w1.alloc o).cell? ⟨p, 4, none⟩ = some (.int .u32 l) ∧ (w1.alloc o).cell? ⟨p, 5, none⟩ = some d :=
  FAt.cells (A := A) (w := w) (ns := ns) ⟨h.it.later (alloc_below _ _)⟩
end

/-- what the law's row gives -/
structure At4W (A : Nat → Addr) (w w' : World) : Prop where
  a : At4 A w w'
  g : Words w'
end Go.Proofs.YtfpdllckpcjgdaaDoor
