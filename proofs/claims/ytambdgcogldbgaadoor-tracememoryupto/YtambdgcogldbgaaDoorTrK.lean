/-
  layer 24's laws: what a call does to one key; TraceJudges' world
-/
import Derived.Test.YtambdgcogldbgaaDoorTrJ
import Derived.Deep.RegionHeldLaw
namespace Go.Proofs.YtambdgcogldbgaaDoor
open Go.RowKit Go.Maps

variable {own own' : Nat → Nat} {i p T mb B : Nat} {w w' w0 w1 W : World} {L : Hs} {I : Nat → Prop} {k : Int} {b : Nat} {v iv ov : Value} {r : Rc} {A : Nat → Addr} {ms ns : List Int}

def wroteR (r : Rc) (ms : List Int) : Rc := if r.cl then r else { r with wr := r.wr ++ ms }
def closedR (r : Rc) : Rc := { r with cl := true }
def gaveRB (r : Rc) (ms : List Int) : Bool := decide (ms.length ≤ r.rest.length) && decide (r.rest.take ms.length = ms)
def gaveR (r : Rc) (ms : List Int) : Rc := if gaveRB r ms then { r with rd := r.rd + ms.length } else r
def endedRB (r : Rc) : Bool := r.cl && decide (r.rd = r.wr.length)
def endedR (r : Rc) : Rc := if endedRB r then { r with en := true } else r
theorem got_tset (L : Hs) (k : Int) (r : Rc) (k' : Int) : got (tset L k r) k' = if k' = k then r else got L k' := by
  unfold got
  rw [tget_tset]
  split <;> rfl
theorem got_wrote (L : Hs) (k : Int) (ms : List Int) : got (wroteL L k ms) k = wroteR (got L k) ms := by
  unfold wroteL wroteR
  split
  · rfl
  · rw [got_tset, if_pos rfl]
theorem got_closed (L : Hs) (k : Int) : got (closedL L k) k = closedR (got L k) := by
  unfold closedL closedR
  split
  · rename_i h; cases hg : got L k; rw [hg] at h; simp only at h; subst h; rfl
  · rw [got_tset, if_pos rfl]
theorem got_gave (L : Hs) (k : Int) (ms : List Int) : got (gaveL L k ms) k = gaveR (got L k) ms := by
  unfold gaveL gaveR
  show (got (if gaveB L k ms then _ else _) k) = if gaveB L k ms then _ else _
  split
  · rw [got_tset, if_pos rfl]
  · rfl
theorem got_ended (L : Hs) (k : Int) : got (endedL L k) k = endedR (got L k) := by
  unfold endedL endedR
  show (got (if endedB L k then _ else _) k) = if endedB L k then _ else _
  split
  · rw [got_tset, if_pos rfl]
  · rfl
theorem len_set_le {L : Hs} (h : TOk T L) (k : Int) (r : Rc) : (tset L k r).length ≤ L.length + 1 := by
  rw [len_tset h.up]
  split <;> omega
theorem len_wrote (h : TOk T L) (k : Int) (ms : List Int) : (wroteL L k ms).length ≤ L.length + 1 := by
  unfold wroteL; split
  · omega
  · exact len_set_le h _ _
theorem len_closed (h : TOk T L) (k : Int) : (closedL L k).length ≤ L.length + 1 := by
  unfold closedL; split
  · omega
  · exact len_set_le h _ _
theorem len_gave (h : TOk T L) (k : Int) (ms : List Int) : (gaveL L k ms).length ≤ L.length + 1 := by
  unfold gaveL; split
  · exact len_set_le h _ _
  · omega
theorem len_ended (h : TOk T L) (k : Int) : (endedL L k).length ≤ L.length + 1 := by
  unfold endedL; split
  · exact len_set_le h _ _
  · omega
/-- of an ended key all is read, and it is closed -/
def Rc.Fin (r : Rc) : Prop := r.en = true → r.cl = true ∧ r.rd = r.wr.length
theorem Rc.Fin.wrote (h : r.Fin) (ms : List Int) : (wroteR r ms).Fin := by
  unfold wroteR
  split
  · exact h
  · rename_i hc; intro he; exact absurd (h he).1 hc
theorem Rc.Fin.closed (h : r.Fin) : (closedR r).Fin := fun he => ⟨rfl, (h he).2⟩
theorem Rc.Fin.gave (h : r.Fin) (ms : List Int) : (gaveR r ms).Fin := by
  unfold gaveR
  split
  · rename_i hg
    intro he
    have h1 := h he
    unfold gaveRB at hg
    rw [Bool.and_eq_true, decide_eq_true_eq] at hg
    have h2 := hg.1
    rw [Rc.rest_len] at h2
    refine ⟨h1.1, ?_⟩
    show r.rd + ms.length = r.wr.length
    omega
  · exact h
theorem Rc.Fin.ended (h : r.Fin) : (endedR r).Fin := by
  unfold endedR
  split
  · rename_i hg
    unfold endedRB at hg
    rw [Bool.and_eq_true, decide_eq_true_eq] at hg
    exact fun _ => hg
  · exact h
theorem take_gave (hg : gaveRB r ms = true) : r.wr.take (r.rd + ms.length) = r.wr.take r.rd ++ ms := by
  unfold gaveRB at hg
  rw [Bool.and_eq_true, decide_eq_true_eq, decide_eq_true_eq] at hg
  have h : (r.wr.drop r.rd).take ms.length = ms := hg.2
  rw [List.take_add, h]

/-- TraceJudges' world -/
structure Jw (A : Nat → Addr) (w0 : World) (own : Nat → Nat) (W : World) (p T : Nat) (L : Hs) (iv : Value) (ins : List Int) (ov : Value) (outs : List Int) : Prop where
  g : OnG A w0 own W
  t : TrO own 1 W p T L
  i : RowB own 2 W iv ins
  o : RowB own 3 W ov outs
variable {ins outs : List Int}
theorem Jw.sn (h : Jw A w0 own W p T L iv ins ov outs) (s : Sn I own W own' w') (h0 : ¬ I 0) (h1 : ¬ I 1) (h2 : ¬ I 2) (h3 : ¬ I 3) : Jw A w0 own' w' p T L iv ins ov outs := ⟨h.g.sn s h0, h.t.sn s h1, h.i.sn s h2, h.o.sn s h3⟩
theorem Jw.quiet (h : Jw A w0 own W p T L iv ins ov outs) (hk : Keeps Nowhere W w') : Jw A w0 own w' p T L iv ins ov outs := h.sn (I := fun _ => False) (Sn.same hk) (fun x => x) (fun x => x) (fun x => x) (fun x => x)
theorem Jw.step (h : Jw A w0 own W p T L iv ins ov outs) (hk : Keeps Nowhere W w') (n : Nat) : Jw A w0 (give own W.heap.size n) w' p T L iv ins ov outs := h.sn (I := fun _ => False) (Sn.quiet hk n) (fun x => x) (fun x => x) (fun x => x) (fun x => x)
/-- the history moves -/
theorem Jw.move {T' : Nat} {L' : Hs} (h : Jw A w0 own W p T L iv ins ov outs) (ht : TrO own' 1 w' p T' L') (s : Sn (fun x => x = 1) own W own' w') : Jw A w0 own' w' p T' L' iv ins ov outs := ⟨h.g.sn s (by decide), ht, h.i.sn s (by decide), h.o.sn s (by decide)⟩
theorem Jw.grd (h : Jw A w0 own W p T L iv ins ov outs) {sl : Value} {ns : List Int} (hr : Rd w0 sl ns) : Rd W sl ns := hr.later h.g.g.bel
end Go.Proofs.YtambdgcogldbgaaDoor
