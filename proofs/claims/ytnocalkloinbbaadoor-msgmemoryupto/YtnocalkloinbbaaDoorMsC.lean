/-
  culvertref27.Say's world: d in its box, the result's box, t in its box, the messages so far
-/
import Derived.Test.YtnocalkloinbbaaDoorMsB
import Derived.Test.YtnocalkloinbbaaDoorMgX
import Derived.Test.YtnocalkloinbbaaDoorAnyT
import Derived.Test.YtnocalkloinbbaaDoorRdSeg
import Derived.Deep.Cut
import Derived.Deep.MidRow
namespace Go.Proofs.YtnocalkloinbbaaDoor
open Go.RowKit

section
variable {w w' W : World} {most : Nat} {q : Option Addr} {L c : Nat} {F : List Int} {fv : Value} {ms : List (List Int)} {own own' : Nat → Nat}
theorem RdL.reown {own2 : Nat → Nat} {d d' : Nat} (h : RdL own d W fv ms) (ho : ∀ g, own g = d → own2 g = d') : RdL own2 d' W fv ms := by
  obtain ⟨vs, h1, h2, h3, h4⟩ := h
  exact ⟨vs, h1, h2, fun g hg => ⟨(h3 g hg).1, ho g (h3 g hg).2⟩, h4.map (fun v r hr => ⟨hr.1, fun g hg => ⟨(hr.2 g hg).1, ho g (hr.2 g hg).2⟩⟩)⟩
/-- messages that can be read, all of them in blocks from base on -/
def MsgsN (base : Nat) (w : World) (fv : Value) (ms : List (List Int)) : Prop := RdL (give (fun _ => 0) base 1) 1 w fv ms
theorem MsgsN.to {base d : Nat} (h : MsgsN base w fv ms) (ho : ∀ g, base ≤ g → own g = d) : RdL own d w fv ms := RdL.reown h (fun g hg => ho g (by
  apply Classical.byContradiction
  intro hn
  rw [give_old (by omega)] at hg
  cases hg))
theorem MsgsN.mk_ {base d e : Nat} {w0 : World} (h : RowL own d e w fv ms) (G : Ground base w0 own w) (hd : d ≠ 0) (he : e ≠ 0) : MsgsN base w fv ms :=
  RowL.rdl h (fun g hg => give_new (by
    apply Classical.byContradiction
    intro hn
    have := G.zero g (by omega)
    omega))
theorem MsgsN.later {base : Nat} (h : MsgsN base w fv ms) (hb : Below w.heap.size w w') : MsgsN base w' fv ms := RdL.quiet h (Keeps.ofBelow hb)
theorem MsgsN.mono {base base' : Nat} (h : MsgsN base w fv ms) (hb : base' ≤ base) : MsgsN base' w fv ms := RdL.reown h (fun g hg => by
  apply give_new
  apply Classical.byContradiction
  intro hn
  rw [give_old (by omega)] at hg
  cases hg)
/-- append of one slice, as a step of a region -/
theorem step_appendL {W : World} {ops : Array Oper} {o : Oper} {a : Act} {K : Act → World → Prop} {Q : Exit → Act → World → Prop} {E : Prop} {d d2 : Nat} {r : List Int} {v : Value} (tmp : Tmp) (hdst : o.dst = some tmp) (hgd : o.guard = none) (s x : Operand)
    (ho : o.op = .call { callee := .builtin .append, args := #[s, x], argTypes := #[22, 22] }) (hW : W = w.alloc (.cells #[v] 29)) (hown : RowL own d d2 w fv ms) (hv : RdO own d2 w v r) (hdd : d ≠ d2)
    (hb : ms.length ≤ 4398046511103) (hs : a.eval s = fv) (hx : a.eval x = .slice (some ⟨w.heap.size, 0, none⟩) 1 1)
    (h : ∀ q' l' c' w', Aside (RowL (give own w.heap.size d) d d2 w' (.slice q' l' c') (ms ++ [r])) → Aside (Sn (fun k => k = d) own w (give own w.heap.size d) w') → K (a.put (some tmp) (.slice q' l' c')) w') : if Region.wanted o (yielded ops a.tmps) = true then Oper.wp Tryd.prog o a W K Q else E := by
  subst hW
  obtain ⟨vs, h1, h2, h3, h4⟩ := hown
  have hv1 : v.oneCell' = true := by obtain ⟨p, c, e⟩ := hv.shape; rw [e]; rfl
  have hk : Keeps Nowhere w (w.alloc (.cells #[v] 29)) := (Keeps.refl _ _).alloc _
  obtain ⟨i, hi, hz0, hz1, hz2⟩ := info_parts linfo
  have hown' := owns_later h1 hk (fun _ _ x => x)
  obtain ⟨v', w', run, o', g', b'⟩ := run_appendR (P := Tryd.prog) (w.alloc (.cells #[v] 29)) 0 22 29 i (.slice none 0 0) 1 24 Tryd.underlying22 hi hz0 hz1 hz2 rfl (by decide) fv vs.length vs hown' _ 1 [v] (readsK_new w 29 [v]) (by simpa using hv1) (by rw [h3.len]; omega) (by rw [h3.len]; unfold maxLen; omega) (Nat.zero_le _)
  have k' := grown_keeps g'
  obtain ⟨q', c', e⟩ := owns_val o'
  subst e
  have s1 : Sn (fun k => k = d) own w (give own w.heap.size d) w' := ⟨fun _ hk => give_old hk, hk.any.next k' (fun k e hlt => h2 k e)⟩
  refine step_appendK tmp hdst hgd s x 22 ho _ _ _ w' hs hx run (h _ _ _ _ ⟨⟨vs ++ [v], by simpa using o', fun g hg => ?_, (h3.snoc hv).sn s1 (fun e => hdd e.symm), fun u hu => ?_⟩⟩ ⟨s1⟩)
  · rcases b' g hg with e | e
    · exact (give_old (owns_lt h1 g e)).trans (h2 g e)
    · exact give_new (Nat.le_trans hk.size e)
  · rcases List.mem_append.1 hu with hu | hu
    · exact h4 u hu
    · simp only [List.mem_singleton] at hu; rw [hu]; exact hv1
/-- Say's world -/
structure Sm (w : World) (most : Nat) (q : Option Addr) (L c : Nat) (F : List Int) (own : Nat → Nat) (fv : Value) (ms : List (List Int)) (W : World) : Prop where
  g : Ground w.heap.size w own W
  rd : Rd w (.slice q L c) F
  d : CellsO own 1 W w.heap.size 31 [.int .i64 most, .slice q L c]
  res : CellsO own 2 W (w.heap.size + 1) 50 [.slice none 0 0, .int .i64 0, .bool false]
  t : CellsO own 3 W (w.heap.size + 2) 50 [fv, .int .i64 0, .bool false]
  row : RowL own 4 5 W fv ms
theorem Sm.start (rd : Rd w (.slice q L c) F) : ∃ own, Sm w most q L c F own (.slice none 0 0) [] (((w.alloc (.cells #[.int .i64 most, .slice q L c] 31)).alloc (.cells #[.slice none 0 0, .int .i64 0, .bool false] 50)).alloc (.cells #[.slice none 0 0, .int .i64 0, .bool false] 50)) := by
  have z1 : (w.alloc (.cells #[.int .i64 most, .slice q L c] 31)).heap.size = w.heap.size + 1 := by simp
  have z2 : ((w.alloc (.cells #[.int .i64 most, .slice q L c] 31)).alloc (.cells #[.slice none 0 0, .int .i64 0, .bool false] 50)).heap.size = w.heap.size + 2 := by simp
  have k : ∀ (W : World) (o : Obj), Keeps Nowhere W (W.alloc o) := fun W o => (Keeps.refl _ _).alloc o
  refine ⟨fun b => if b < w.heap.size then 0 else b - w.heap.size + 1, ⟨?_, ?_, ?_⟩, rd, ⟨?_, ?_⟩, ⟨?_, ?_⟩, ⟨?_, ?_⟩, RowL.nil _ _ _ _⟩
  · intro k hk; simp [hk]
  · exact (((k _ _).trans (k _ _)).trans (k _ _)).bel
  · simp; omega
  · exact (Cells.new w 31 [.int .i64 most, .slice q L c]).later ((k _ _).trans (k _ _)) (fun x => x)
  · simp
  · rw [← z1]; exact (Cells.new _ 50 [.slice none 0 0, .int .i64 0, .bool false]).later (k _ _) (fun x => x)
  · simp
  · rw [← z2]; exact Cells.new _ 50 [.slice none 0 0, .int .i64 0, .bool false]
  · simp
theorem Sm.cells (h : Sm w most q L c F own fv ms W) : W.cell? ⟨w.heap.size, 0, none⟩ = some (.int .i64 most) ∧ W.cell? ⟨w.heap.size, 1, none⟩ = some (.slice q L c) ∧ W.cell? ⟨w.heap.size + 2, 0, none⟩ = some fv ∧ W.cell? ⟨w.heap.size + 2, 1, none⟩ = some (.int .i64 0) ∧ W.cell? ⟨w.heap.size + 2, 2, none⟩ = some (.bool false) := by
  refine ⟨?_, ?_, ?_, ?_, ?_⟩
  · rw [h.d.1.cell]; rfl
  · rw [h.d.1.cell]; rfl
  · rw [h.t.1.cell]; rfl
  · rw [h.t.1.cell]; rfl
  · rw [h.t.1.cell]; rfl
theorem Sm.quiet (h : Sm w most q L c F own fv ms W) (k : Keeps Nowhere W w') : Sm w most q L c F own fv ms w' :=
  ⟨h.g.quiet k, h.rd, h.d.quiet k, h.res.quiet k, h.t.quiet k, h.row.sn (I := fun _ => False) (Sn.same k) (fun x => x) (fun x => x)⟩
/-- a part of the bytes that were fed -/
theorem Sm.seg (h : Sm w most q L c F own fv ms W) {a n : Nat} (hn : a + n ≤ F.length) : Rd W (.slice (if c = a then q else q.map (·.add a)) n (c - a)) ((F.drop a).take n) := by
  have r0 : RdS Nowhere W (.slice q L c) F := h.rd.later h.g.bel
  exact r0.seg hn
theorem there3 {p : Nat} {e : TypeId} {c0 c1 c2 : Value} (h : Cells W p e [c0, c1, c2]) : W.there p 0 3 := by
  intro j hj
  rw [Nat.zero_add]
  refine ⟨?_, h.frozen j⟩
  rw [h.cell, List.getElem?_eq_getElem (by show j < 3; exact hj)]
  rfl
theorem told27Info (x : Value) (a : Int) (b : Bool) : (Tryd.prog.info? 50).map (·.size) = some (#[x, .int .i64 a, .bool b] : Array Value).size := by
  have : (Tryd.prog.info? 50).map (·.size) = some 3 := by kernel_rfl
  rw [this]; rfl
/-- t's field written, the result's box written -/
theorem Sm.done (h : Sm w most q L c F own fv ms W) {j : Nat} {u : Value} {x : Value} {a : Int} {b : Bool} : Cells ((W.setCell ⟨w.heap.size + 2, j, none⟩ u).setCells (w.heap.size + 1) 0 (#[x, .int .i64 a, .bool b] : Array Value).toList) (w.heap.size + 1) 50 [x, .int .i64 a, .bool b] ∧ MsgsN w.heap.size ((W.setCell ⟨w.heap.size + 2, j, none⟩ u).setCells (w.heap.size + 1) 0 (#[x, .int .i64 a, .bool b] : Array Value).toList) fv ms ∧ Below w.heap.size w ((W.setCell ⟨w.heap.size + 2, j, none⟩ u).setCells (w.heap.size + 1) 0 (#[x, .int .i64 a, .bool b] : Array Value).toList) := by
  have K5 : Keeps (fun k => k = w.heap.size + 2) W (W.setCell ⟨w.heap.size + 2, j, none⟩ u) := (Keeps.refl _ _).setCell _ _ (fun _ => rfl)
  have R5 : Cells (W.setCell ⟨w.heap.size + 2, j, none⟩ u) (w.heap.size + 1) 50 [.slice none 0 0, .int .i64 0, .bool false] := h.res.1.setOther _ _ (by show w.heap.size + 1 ≠ w.heap.size + 2; omega)
  have K6 : Keeps (fun k => k = w.heap.size + 1) (W.setCell ⟨w.heap.size + 2, j, none⟩ u) ((W.setCell ⟨w.heap.size + 2, j, none⟩ u).setCells (w.heap.size + 1) 0 (#[x, .int .i64 a, .bool b] : Array Value).toList) := (((Keeps.refl (fun k => k = w.heap.size + 1) _).setCell ⟨w.heap.size + 1, 0, none⟩ x (fun _ => rfl)).setCell ⟨w.heap.size + 1, 1, none⟩ (.int .i64 a) (fun _ => rfl)).setCell ⟨w.heap.size + 1, 2, none⟩ (.bool b) (fun _ => rfl)
  have S5 : Sn (fun k => k = 3 ∨ k = 2) own W own ((W.setCell ⟨w.heap.size + 2, j, none⟩ u).setCells (w.heap.size + 1) 0 (#[x, .int .i64 a, .bool b] : Array Value).toList) := ⟨fun _ _ => rfl, (K5.mono (S' := fun k => own k = 3 ∨ own k = 2) (fun k e _ => by subst e; exact .inl h.t.2)).next K6 (fun k e _ => by subst e; exact .inr h.res.2)⟩
  exact ⟨((R5.setCell 0 x).setCell 1 (.int .i64 a)).setCell 2 (.bool b), MsgsN.mk_ (h.row.sn S5 (by omega) (by omega)) (h.g.sn S5 (by omega)) (by decide) (by decide), (h.g.sn S5 (by omega)).bel⟩
theorem owns_rebase27 {B : Nat} {v' : Value} {ns : List Int} (o : w'.ownsRow 0 5 1 v' ns.length (bv ns)) (hb : ∀ b, v'.ownBlock = some b → B ≤ b) : OwnB B w' v' ns := by
  refine ⟨o.1, ?_⟩
  rcases o.2 with h0 | ⟨g, cap, cur, rfl, _, rest⟩
  · exact .inl h0
  · exact .inr ⟨g, cap, cur, rfl, hb g rfl, rest⟩
/-- behind the append of the message's copy -/
theorem Sm.copied {q8 : Option Addr} {l8 c8 : Nat} {D : List Int} {W1 w8 : World} (h : Sm w most q L c F own fv ms W) (k1 : Keeps Nowhere W W1) (o8 : w8.ownsRow 0 5 1 (.slice q8 l8 c8) (([] : List Int) ++ D).length (bv (([] : List Int) ++ D)))
    (k8 : Keeps (fun b => (Value.slice (some ⟨W.heap.size, 0, none⟩) 0 0).ownBlock = some b) W1 w8) (b8 : ∀ b, (Value.slice q8 l8 c8).ownBlock = some b → (Value.slice (some ⟨W.heap.size, 0, none⟩) 0 0).ownBlock = some b ∨ W1.heap.size ≤ b) :
    Keeps Nowhere W w8 ∧ Sm w most q L c F (give own W.heap.size 5) fv ms w8 ∧ RdO (give own W.heap.size 5) 5 w8 (.slice q8 l8 c8) D := by
  have kk : Keeps Nowhere W w8 := k1.next k8 (fun k hk hlt => by
    simp only [Value.ownBlock, Option.some.injEq] at hk
    omega)
  have s : Sn (fun _ => False) own W (give own W.heap.size 5) w8 := Sn.quiet kk 5
  have hb : ∀ b, (Value.slice q8 l8 c8).ownBlock = some b → W.heap.size ≤ b := fun b hb => by
    rcases b8 b hb with e | e
    · simp only [Value.ownBlock, Option.some.injEq] at e
      omega
    · exact Nat.le_trans k1.size e
  have o9 : OwnB 0 w8 (.slice q8 l8 c8) D := by simpa [OwnB] using o8
  exact ⟨kk, ⟨h.g.sn s (fun x => x), h.rd, h.d.sn s (fun x => x), h.res.sn s (fun x => x), h.t.sn s (fun x => x), h.row.sn s (fun x => x) (fun x => x)⟩, OwnB.rd o9, fun g hg => ⟨owns_lt o8 g hg, give_new (hb g hg)⟩⟩
/-- one message more -/
theorem Sm.next {own' : Nat → Nat} {fv' : Value} {ms' : List (List Int)} (h : Sm w most q L c F own fv ms W) (r : RowL own' 4 5 w' fv' ms') (s : Sn (fun k => k = 4) own W own' w') :
    (w'.cell? ⟨w.heap.size, 1, none⟩ = some (.slice q L c) ∧ w'.cell? ⟨w.heap.size + 2, 0, none⟩ = some fv ∧ w'.frozen? ⟨w.heap.size + 2, 0, none⟩ = false) ∧ Sm w most q L c F own' fv' ms' (w'.setCell ⟨w.heap.size + 2, 0, none⟩ fv') := by
  have d' := h.d.sn s (by decide)
  have t' := h.t.sn s (by decide)
  have r' := h.res.sn s (by decide)
  have k : Keeps (fun b => own' b = 3) w' (w'.setCell ⟨w.heap.size + 2, 0, none⟩ fv') := (Keeps.refl _ _).setCell _ _ (fun _ => t'.2)
  have s2 : Sn (fun k => k = 3) own' w' own' (w'.setCell ⟨w.heap.size + 2, 0, none⟩ fv') := ⟨fun _ _ => rfl, k⟩
  exact ⟨⟨by rw [d'.1.cell]; rfl, by rw [t'.1.cell]; rfl, t'.1.frozen 0⟩, (h.g.sn s (by decide)).sn s2 (by decide), h.rd, d'.sn s2 (by decide), r'.sn s2 (by decide), ⟨t'.1.setCell 0 fv', t'.2⟩, r.sn s2 (by decide) (by decide)⟩
end
end Go.Proofs.YtnocalkloinbbaaDoor
