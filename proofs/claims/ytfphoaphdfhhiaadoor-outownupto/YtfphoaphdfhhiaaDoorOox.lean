import Derived.Test.YtfphoaphdfhhiaaDoorOutPlays
import Derived.Test.YtfphoaphdfhhiaaDoorApW
import Derived.Deep.DeepCutAuto
import Derived.Deep.RegionWith
/-
  culvertlaw06.OutOwn's world
-/
namespace Go.Proofs.YtfphoaphdfhhiaaDoor
open Go.RowKit

section
variable {A : Nat → Addr} {own : Nat → Nat} {w0 W : World}
theorem xb_of {k : Nat} {v : Value} {l : List Int} (h : RowB own (100 + 2 * k) W v l) : XB own W k v l := ⟨h.1, fun b hb => ⟨h.2 b hb, owns_lt h.1 b hb⟩⟩
theorem XB.rd {k : Nat} {v : Value} {l : List Int} (h : XB own W k v l) : Rd W v l := OwnB.rd (B := 0) h.1
theorem str_run {x : Value} {T : List Int} {S : ByteArray} (h : Rd W x T) (hS : Aside (strOf T = S)) : (convert 35 9 x).run Tryd.prog W = .ok (.string S) W := by
  have sc := run_bytesStr (P := Tryd.prog) W 35 9 5 _ _ Tryd.underlying35 Tryd.underlying5 Tryd.underlying9 h.holds
  rw [hS.it] at sc
  exact sc
theorem OnG.cell {a : Addr} {x : Value} (hg : OnG A w0 own W) (h : w0.cell? a = some x) : W.cell? a = some x := by
  rw [hg.g.bel.cell (World.block_lt_of_cell? w0 _ h), h]
end
section
variable {A : Nat → Addr} {own own' own2 : Nat → Nat} {w w' w0 W : World} {lv mv fv fv' xv xv' : Value} {vs us : List Value} {Lv Lu rs rd ss : List (List Int)} {tot tq : Nat} {p q wb xb nb b o ob : Nat} {I : Nat → Prop} {X : List (Nat × TypeId × List Value)}

/-- two buffers (11, 12 and 1, 2), the documents' (13 and 3), boxes (8), the lists -/
structure Oj (A : Nat → Addr) (w0 : World) (own : Nat → Nat) (W : World) (p : Nat) (rs : List (List Int)) (tot : Nat) (fv : Value) (rd : List (List Int)) (fv' : Value) (wb q : Nat) (ss : List (List Int)) (tq : Nat) (xv xv' : Value) (xb : Nat) (lv : Value) (vs : List Value) (mv : Value) (us : List Value) (Lv Lu : List (List Int)) (X : List (Nat × TypeId × List Value)) : Prop where
  g : OnG A w0 own W
  bp : BufO own 11 12 W p rs tot
  dr : RdL own 13 W fv rd
  bq : BufO own 1 2 W q ss tq
  dq : RdL own 3 W xv ss
  cw : CellsO own 8 W wb 28 [fv']
  cx : CellsO own 8 W xb 28 [xv']
  l : Ls5 own W lv vs mv us Lv Lu
  x : ∀ z ∈ X, CellsO own 8 W z.1 z.2.1 z.2.2
  ne : wb ≠ xb
theorem Oj.sn (h : Oj A w0 own W p rs tot fv rd fv' wb q ss tq xv xv' xb lv vs mv us Lv Lu X) (s : Sn I own W own' w') (hI : ∀ k, k ≤ 30 → ¬ I k) (hh : ∀ q, q < Lv.length → ¬ I (100 + 2 * q)) : Oj A w0 own' w' p rs tot fv rd fv' wb q ss tq xv xv' xb lv vs mv us Lv Lu X :=
  ⟨h.g.sn s (hI 0 (by decide)), h.bp.sn s (hI _ (by decide)) (hI _ (by decide)), h.dr.sn s (hI _ (by decide)), h.bq.sn s (hI _ (by decide)) (hI _ (by decide)), h.dq.sn s (hI _ (by decide)), h.cw.sn s (hI _ (by decide)), h.cx.sn s (hI _ (by decide)), h.l.sn s (hI _ (by decide)) (hI _ (by decide)) (hI _ (by decide)) hh, fun z hz => (h.x z hz).sn s (hI _ (by decide)), h.ne⟩
theorem Oj.quiet (h : Oj A w0 own W p rs tot fv rd fv' wb q ss tq xv xv' xb lv vs mv us Lv Lu X) (hk : Keeps Nowhere W w') : Oj A w0 own w' p rs tot fv rd fv' wb q ss tq xv xv' xb lv vs mv us Lv Lu X :=
  h.sn (I := fun _ => False) (Sn.same hk) (fun _ _ x => x) (fun _ _ x => x)
theorem Oj.step (h : Oj A w0 own W p rs tot fv rd fv' wb q ss tq xv xv' xb lv vs mv us Lv Lu X) (hk : Keeps Nowhere W w') (r : Nat) : Oj A w0 (give own W.heap.size r) w' p rs tot fv rd fv' wb q ss tq xv xv' xb lv vs mv us Lv Lu X :=
  h.sn (I := fun _ => False) (Sn.quiet hk r) (fun _ _ x => x) (fun _ _ x => x)
theorem Oj.box (h : Oj A w0 own W p rs tot fv rd fv' wb q ss tq xv xv' xb lv vs mv us Lv Lu X) (ty : TypeId) (cs : List Value) : Oj A w0 (give own W.heap.size 8) (W.alloc (.cells cs.toArray ty)) p rs tot fv rd fv' wb q ss tq xv xv' xb lv vs mv us Lv Lu ((W.heap.size, ty, cs) :: X) := by
  have h' := h.step ((Keeps.refl _ _).alloc (.cells cs.toArray ty)) 8
  refine ⟨h'.g, h'.bp, h'.dr, h'.bq, h'.dq, h'.cw, h'.cx, h'.l, fun z hz => ?_, h'.ne⟩
  rcases List.mem_cons.1 hz with rfl | hz
  · exact ⟨Cells.new W _ _, give_new (Nat.le_refl _)⟩
  · exact h'.x z hz
theorem Oj.drop (h : Oj A w0 own W p rs tot fv rd fv' wb q ss tq xv xv' xb lv vs mv us Lv Lu X) : Oj A w0 own W p rs tot fv rd fv' wb q ss tq xv xv' xb lv vs mv us Lv Lu [] := ⟨h.g, h.bp, h.dr, h.bq, h.dq, h.cw, h.cx, h.l, fun z hz => (by cases hz), h.ne⟩
/-- q has taken its step -/
theorem oj_stepq {a : Option Addr} {l c : Nat} (h : Aside (Oj A w0 own W p rs tot fv rd fv' wb q ss tq (.slice a l c) xv' xb lv vs mv us Lv Lu X)) (z : OpV6) (hz : Op6Ok w0 1048576 z z.cells) (ht : tq ≤ 4398044413932) : Calls Tryd.prog 6 #[ptr q, .agg #[.slice a l c], .agg z.cells.toArray] W fun e w' => ∃ a' l' c' own6, e = .returned (.tuple #[.agg #[.slice a' l' c'], .bool true]) ∧ Aside (Oj A w0 own6 w' p rs tot fv rd fv' wb q (stepL ss z) (tq + 1048588) (.slice a' l' c') xv' xb lv vs mv us Lv Lu X) := by
  refine (step_any6 a l c h.it.bq h.it.dq h.it.g z z.cells hz ht).mono ?_
  rintro e w' ⟨a', l', c', own6, rfl, Y⟩
  obtain ⟨y1, y2, s⟩ := Y.it
  have hI : ∀ k, k ≠ 1 → k ≠ 2 → ¬ OneTwo k := fun k h1 h2 => by unfold OneTwo; omega
  exact ⟨a', l', c', own6, rfl, ⟨h.it.g.sn s (hI _ (by decide) (by decide)), h.it.bp.sn s (hI _ (by decide) (by decide)) (hI _ (by decide) (by decide)), h.it.dr.sn s (hI _ (by decide) (by decide)), y1, y2, h.it.cw.sn s (hI _ (by decide) (by decide)), h.it.cx.sn s (hI _ (by decide) (by decide)), h.it.l.sn s (hI _ (by decide) (by decide)) (hI _ (by decide) (by decide)) (hI _ (by decide) (by decide)) (fun r _ => hI _ (by omega) (by omega)), fun z hz => (h.it.x z hz).sn s (hI _ (by decide) (by decide)), h.it.ne⟩⟩
/-- p's own call has changed its buffer -/
theorem Oj.prog {rs2 : List (List Int)} {tot2 : Nat} (h : Oj A w0 own W p rs tot fv rd fv' wb q ss tq xv xv' xb lv vs mv us Lv Lu X) (hb : BufO own2 11 12 w' p rs2 tot2) (s : Sn (fun k => k = 11 ∨ k = 12) own W own2 w') : Oj A w0 own2 w' p rs2 tot2 fv rd fv' wb q ss tq xv xv' xb lv vs mv us Lv Lu X :=
  ⟨h.g.sn s (by omega), hb, h.dr.sn s (by omega), h.bq.sn s (by omega) (by omega), h.dq.sn s (by omega), h.cw.sn s (by omega), h.cx.sn s (by omega), h.l.sn s (by omega) (by omega) (by omega) (fun r _ => by omega), fun z hz => (h.x z hz).sn s (by omega), h.ne⟩
/-- the document's next is known -/
theorem Oj.pend {fu : Value} {re : List (List Int)} (h : Oj A w0 own W p rs tot fv rd fv' wb q ss tq xv xv' xb lv vs mv us Lv Lu X) (he : RdL own 13 W fu re) : Oj A w0 own W p rs tot fu re fv' wb q ss tq xv xv' xb lv vs mv us Lv Lu X := ⟨h.g, h.bp, he, h.bq, h.dq, h.cw, h.cx, h.l, h.x, h.ne⟩
theorem Oj.pushL {v : Value} {l : List Int} (h : Oj A w0 own W p rs tot fv rd fv' wb q ss tq xv xv' xb lv vs mv us Lv Lu X) (hX : XB own W Lv.length v l) (hb : Lv.length ≤ 1048576) : ∃ (a : Option Addr) (c : Nat) (w' : World) (own' : Nat → Nat), (∀ ty, (Builtin.append_ #[26, 26] ty #[lv, .slice (some ⟨W.heap.size, 0, none⟩) 1 1]).run Tryd.prog (W.alloc (.cells #[v] 35)) = .ok (.slice a (Lv.length + 1) c) w') ∧ Aside (Oj A w0 own' w' p rs tot fv rd fv' wb q ss tq xv xv' xb (.slice a (Lv.length + 1) c) (vs ++ [v]) mv us (Lv ++ [l]) Lu X ∧ XB own' w' Lv.length v l) := by
  obtain ⟨a, c, w', own', run, X'⟩ := h.l.pushL hX hb
  have s := X'.it.2
  exact ⟨a, c, w', own', run, ⟨h.g.sn s (by decide), h.bp.sn s (by decide) (by decide), h.dr.sn s (by decide), h.bq.sn s (by decide) (by decide), h.dq.sn s (by decide), h.cw.sn s (by decide), h.cx.sn s (by decide), X'.it.1, fun z hz => (h.x z hz).sn s (by decide), h.ne⟩, hX.sn s (by omega)⟩
theorem Oj.pushM {v : Value} {l : List Int} (h : Oj A w0 own W p rs tot fv rd fv' wb q ss tq xv xv' xb lv vs mv us Lv Lu X) (hv : RdO own 7 W v l) (hb : Lu.length ≤ 1048576) : ∃ (a : Option Addr) (c : Nat) (w' : World) (own' : Nat → Nat), (∀ ty, (Builtin.append_ #[26, 26] ty #[mv, .slice (some ⟨W.heap.size, 0, none⟩) 1 1]).run Tryd.prog (W.alloc (.cells #[v] 35)) = .ok (.slice a (Lu.length + 1) c) w') ∧ Aside (Oj A w0 own' w' p rs tot fv rd fv' wb q ss tq xv xv' xb lv vs (.slice a (Lu.length + 1) c) (us ++ [v]) Lv (Lu ++ [l]) X) := by
  obtain ⟨a, c, w', own', run, X'⟩ := h.l.pushM hv hb
  have s := X'.it.2
  exact ⟨a, c, w', own', run, ⟨h.g.sn s (by decide), h.bp.sn s (by decide) (by decide), h.dr.sn s (by decide), h.bq.sn s (by decide) (by decide), h.dq.sn s (by decide), h.cw.sn s (by decide), h.cx.sn s (by decide), X'.it.1, fun z hz => (h.x z hz).sn s (by decide), h.ne⟩⟩
theorem Oj.cellsX (h : Oj A w0 own W p rs tot fv rd fv' wb q ss tq xv xv' xb lv vs mv us Lv Lu X) : W.cell? ⟨xb, 0, none⟩ = some xv' ∧ W.frozen? ⟨xb, 0, none⟩ = false := ⟨by rw [h.cx.1.cell]; rfl, h.cx.1.frozen 0⟩
theorem Oj.cellsW (h : Oj A w0 own W p rs tot fv rd fv' wb q ss tq xv xv' xb lv vs mv us Lv Lu X) : W.cell? ⟨wb, 0, none⟩ = some fv' ∧ W.frozen? ⟨wb, 0, none⟩ = false := ⟨by rw [h.cw.1.cell]; rfl, h.cw.1.frozen 0⟩
theorem box_sn {c0 : Value} {cs : List Value} {ty : TypeId} {i : Nat} (h : CellsO own 8 W nb ty cs) : Sn (fun k => k = 8) own W own (W.setCell ⟨nb, i, none⟩ c0) := ⟨fun _ _ => rfl, (Keeps.refl _ _).setCell _ _ (fun _ => h.2)⟩
theorem box_oth {c0 : Value} {cs : List Value} {ty : TypeId} {i : Nat} (h : CellsO own 8 W ob ty cs) (hn : ob ≠ nb) : CellsO own 8 (W.setCell ⟨nb, i, none⟩ c0) ob ty cs := ⟨h.1.setOther ⟨nb, i, none⟩ c0 hn, h.2⟩
theorem Oj.writeX (h : Oj A w0 own W p rs tot fv rd fv' wb q ss tq xv xv' xb lv vs mv us Lv Lu X) : Oj A w0 own (W.setCell ⟨xb, 0, none⟩ xv) p rs tot fv rd fv' wb q ss tq xv xv xb lv vs mv us Lv Lu [] := by
  have s8 := box_sn (c0 := xv) (i := 0) h.cx
  exact ⟨h.g.sn s8 (by decide), h.bp.sn s8 (by decide) (by decide), h.dr.sn s8 (by decide), h.bq.sn s8 (by decide) (by decide), h.dq.sn s8 (by decide), box_oth h.cw h.ne, ⟨h.cx.1.setCell 0 xv, h.cx.2⟩, h.l.sn s8 (by decide) (by decide) (by decide) (fun r _ => by omega), fun z hz => (by cases hz), h.ne⟩
theorem Oj.writeW (h : Oj A w0 own W p rs tot fv rd fv' wb q ss tq xv xv' xb lv vs mv us Lv Lu X) : Oj A w0 own (W.setCell ⟨wb, 0, none⟩ fv) p rs tot fv rd fv wb q ss tq xv xv' xb lv vs mv us Lv Lu [] := by
  have s8 := box_sn (c0 := fv) (i := 0) h.cw
  exact ⟨h.g.sn s8 (by decide), h.bp.sn s8 (by decide) (by decide), h.dr.sn s8 (by decide), h.bq.sn s8 (by decide) (by decide), h.dq.sn s8 (by decide), ⟨h.cw.1.setCell 0 fv, h.cw.2⟩, box_oth h.cx (fun e => h.ne e.symm), h.l.sn s8 (by decide) (by decide) (by decide) (fun r _ => by omega), fun z hz => (by cases hz), h.ne⟩
/-- the document's Take -/
theorem oj_refTake (h : Oj A w0 own W p rs tot fv rd fv' wb q ss tq xv xv' xb lv vs mv us Lv Lu X) (n : Int) (hT : rd.flatten.length ≤ 4398046511103) (hM : rd.length ≤ 4398046511103) : Calls Tryd.prog 7 #[.agg #[fv], .int .i64 n] W fun e w' => ∃ a l c ga gl gc own', e = .returned (.tuple #[.agg #[.slice a l c], .slice ga gl gc]) ∧ Aside (Oj A w0 own' w' p rs tot (.slice a l c) (leftN rd n.toNat) fv' wb q ss tq xv xv' xb lv vs mv us Lv Lu X ∧ RdO own' 13 w' (.slice ga gl gc) (rd.flatten.take n.toNat)) := by
  refine (refTake6 h.dr n hT hM).mono ?_
  rintro e w' ⟨fu, gv, rfl, Y⟩
  obtain ⟨y1, y2, k⟩ := Y.it
  obtain ⟨a, c, e1, _⟩ := y1.at
  obtain ⟨ga, gc, e2⟩ := y2.shape
  subst e1 e2
  exact ⟨a, _, c, ga, _, gc, _, rfl, ⟨(h.step k 13).pend y1, y2⟩⟩
/-- the document's Put -/
theorem oj_refPut {v t f s l : Int} {dd : Value} {ns : List Int} (h : Oj A w0 own W p rs tot fv rd fv' wb q ss tq xv xv' xb lv vs mv us Lv Lu X) (hd : Rd W dd ns) (hn : ns.length ≤ 1048576) (hf0 : 0 ≤ f) (hf1 : f ≤ 65535) (hs0 : 0 ≤ s) (hs1 : s ≤ 4294967295) (hl0 : 0 ≤ l) (hl1 : l ≤ 4294967295) (hM : rd.length ≤ 4398046511102) : Calls Tryd.prog 9 #[.agg #[fv], frm v t f s l dd] W fun e w' => ∃ a k c own', e = .returned (.tuple #[.agg #[.slice a k c], .int .i64 (bE t l ns.length)]) ∧ Aside (Oj A w0 own' w' p rs tot (.slice a k c) (putL rd v t f s l ns) fv' wb q ss tq xv xv' xb lv vs mv us Lv Lu X ∧ own' = give own W.heap.size 13 ∧ Keeps Nowhere W w') := by
  by_cases hok : (ns.length : Int) = szH t l
  · unfold putL bE
    rw [if_pos hok, if_pos hok]
    refine (refPut6_ok h.dr h.g.sents v t f s l dd ns hd (by omega) hf0 hf1 hs0 hs1 hl0 hl1 hok hM).mono ?_
    rintro e w' ⟨fu, rfl, Y⟩
    obtain ⟨a, c, e1, _⟩ := Y.it.1.at
    subst e1
    exact ⟨a, _, c, _, rfl, ⟨(h.step Y.it.2 13).pend Y.it.1, rfl, Y.it.2⟩⟩
  · unfold putL bE
    rw [if_neg hok, if_neg hok]
    obtain ⟨a, c, e1, _⟩ := h.dr.at
    subst e1
    refine (refPut6_bad _ ⟨_, _, _, rfl⟩ h.g.sents v t f s l dd ns hd (by omega) hf0 hf1 hs0 hs1 hl0 hl1 hok).mono ?_
    rintro e w' ⟨rfl, k⟩
    exact ⟨a, _, c, _, rfl, ⟨h.step k.it 13, rfl, k.it⟩⟩
/-- p's Put -/
theorem oj_put {v t f s l : Int} {dd : Value} {ns : List Int} (h : Oj A w0 own W p rs tot fv rd fv' wb q ss tq xv xv' xb lv vs mv us Lv Lu X) (hd : Rd W dd ns) (hn : ns.length ≤ 1048576) (hf0 : 0 ≤ f) (hf1 : f ≤ 65535) (hs0 : 0 ≤ s) (hs1 : s ≤ 4294967295) (hl0 : 0 ≤ l) (hl1 : l ≤ 4294967295) (htot : tot ≤ 4398044413932) : Calls Tryd.prog 11 #[ptr p, frm v t f s l dd] W fun e w' => ∃ ev own', e = .returned ev ∧ Aside (Oj A w0 own' w' p (putL rs v t f s l ns) (tot + 1048588) fv rd fv' wb q ss tq xv xv' xb lv vs mv us Lv Lu X ∧ Coded A ev (bE t l ns.length) ∧ Sn (fun k => k = 11 ∨ k = 12) own W own' w') := by
  have hle := h.bp.len_le
  by_cases hok : (ns.length : Int) = szH t l
  · refine (putB_ok (by decide) h.bp h.g.sents v t f s l dd ns hd (by omega) hf0 hf1 hs0 hs1 hl0 hl1 hok (by omega) (by simp only [maxI]; omega)).mono ?_
    rintro e w' ⟨own', rfl, Y⟩
    have s1 : Sn (fun k => k = 11 ∨ k = 12) own W own' w' := Y.it.2.mono (fun _ e => .inl e)
    refine ⟨_, own', rfl, ⟨?_, by unfold bE; rw [if_pos hok]; exact Coded.none, s1⟩⟩
    have hb : BufO own' 11 12 w' p (putL rs v t f s l ns) (tot + 1048588) := by
      unfold putL
      rw [if_pos hok]
      exact Y.it.1.more (by omega)
    exact h.prog hb s1
  · refine (putB_bad p h.g.sents v t f s l dd ns hd (by omega) hf0 hf1 hs0 hs1 hl0 hl1 hok).mono ?_
    rintro e w' ⟨ev, rfl, Y⟩
    have s1 : Sn (fun k => k = 11 ∨ k = 12) own W own w' := Sn.same Y.it.2
    refine ⟨_, own, rfl, ⟨?_, by unfold bE; rw [if_neg hok]; exact Y.it.1, s1⟩⟩
    have hb : BufO own 11 12 w' p (putL rs v t f s l ns) (tot + 1048588) := by
      unfold putL
      rw [if_neg hok]
      exact (h.bp.quiet Y.it.2).more (by omega)
    exact h.prog hb s1
/-- p's Take -/
theorem oj_take (h : Oj A w0 own W p rs tot fv rd fv' wb q ss tq xv xv' xb lv vs mv us Lv Lu X) (n : Int) (k : Nat) (htot : tot ≤ 4398046511103) : Calls Tryd.prog 8 #[ptr p, .int .i64 n] W fun e w' => ∃ a l c own', e = .returned (.slice a l c) ∧ Aside (Oj A w0 own' w' p (leftN rs n.toNat) tot fv rd fv' wb q ss tq xv xv' xb lv vs mv us Lv Lu X ∧ XB own' w' k (.slice a l c) (rs.flatten.take n.toNat) ∧ Sn (fun k => k = 11 ∨ k = 12) own W own' w') := by
  refine (takeB (o := 100 + 2 * k) (by decide) (by omega) (by omega) h.bp htot n).mono ?_
  rintro e w' ⟨x, own', rfl, Y⟩
  obtain ⟨a, c, e1⟩ := Y.it.row.shape
  subst e1
  exact ⟨a, _, c, own', rfl, ⟨h.prog Y.it.buf Y.it.sn, xb_of Y.it.row, Y.it.sn⟩⟩
end
end Go.Proofs.YtfphoaphdfhhiaaDoor

/-
  culvertlaw06.OutOwn: copies, an op's cells, the world behind the loop
-/
namespace Go.Proofs.YtfphoaphdfhhiaaDoor
open Go.RowKit

/-- a row of bytes that is new since w -/
structure Ny (w W : World) (v : Value) (ns : List Int) : Prop where
  row : OwnB w.heap.size W v ns
  k : Keeps Nowhere w W
section
variable {w W W' : World} {v x : Value} {ns : List Int} {own : Nat → Nat}
theorem Ny.xb (h : Ny w W v ns) (own : Nat → Nat) (k : Nat) : XB (give own w.heap.size (100 + 2 * k)) W k v ns := ⟨owns_any h.row, fun b hb => ⟨give_new (owns_base h.row b hb), owns_lt h.row b hb⟩⟩
theorem Ny.rdO (h : Ny w W v ns) (own : Nat → Nat) (o : Nat) : RdO (give own w.heap.size o) o W v ns := ⟨OwnB.rd h.row, fun g hg => ⟨owns_lt h.row g hg, give_new (owns_base h.row g hg)⟩⟩
theorem keeps_from {a b c : World} (h : Keeps Nowhere a b) (h' : Below a.heap.size b c) : Keeps Nowhere a c := Keeps.ofBelow (h.bel.trans h')
/-- append(v, x...) of a row that is new since w -/
theorem appRun {ms : List Int} {m : Nat} (h : OwnB w.heap.size W v ns) (hk : Keeps Nowhere w W) (hx : Rd W x ms) (hb : ns.length + ms.length ≤ 140737488355328) (hm : (ns ++ ms).length = m) : ∃ (a : Option Addr) (c : Nat) (w' : World), (∀ ty, (Builtin.append_ #[35, 35] ty #[v, x]).run Tryd.prog W = .ok (.slice a m c) w') ∧ Aside (Ny w w' (.slice a m c) (ns ++ ms)) := by
  obtain ⟨i, hi, hz0, hz1, hz2⟩ := info_parts u8info
  have hown' : W.ownsRow w.heap.size 5 1 v (bv ns).length (bv ns) := by rw [bv_length]; exact h
  obtain ⟨v', w', run, o', g'⟩ := run_appendK (P := Tryd.prog) W w.heap.size 35 5 i _ 1 Tryd.underlying35 hi hz0 hz1 hz2 rfl v (bv ns) hown' x (bv ms) hx.1 hx.2 (bv_one ms) (by rw [bv_length, bv_length]; omega) (by rw [bv_length, bv_length]; unfold maxLen; omega) hk.size
  have o2 : OwnB w.heap.size w' v' (ns ++ ms) := by
    rw [← bv_append, bv_length] at o'
    exact o'
  obtain ⟨a, c, e⟩ := OwnB.shape o2
  rw [hm] at e
  subst e
  exact ⟨a, c, w', run, ⟨o2, hk.next (grown_keeps g') (fun b hb hlt => by have := owns_base h b hb; omega)⟩⟩
/-- append([]byte(nil-less), x...) -/
theorem copyRun {N : Nat} (hx : Rd W x ns) (hN : ns.length = N) (hb : N ≤ 140737488355328) : ∃ (a : Option Addr) (c : Nat) (w' : World), (∀ ty, (Builtin.append_ #[35, 35] ty #[.slice (some ⟨W.heap.size, 0, none⟩) 0 0, x]).run Tryd.prog (W.alloc (.cells #[] 5)) = .ok (.slice a N c) w') ∧ Aside (Ny W w' (.slice a N c) ns) := by
  have K : Keeps Nowhere W (W.alloc (.cells #[] 5)) := (Keeps.refl _ _).alloc _
  exact appRun (ns := []) (owns_empty W 5) K (hx.later K.bel) (by simp; omega) (by simpa using hN)
theorem Ny.full {B B2 : Nat} {a : Option Addr} {c : Nat} (h : Ny w W (.slice a B c) ns) (hB : ns.length = B) (hB2 : B2 = B + 2) (hb : B ≤ 1048576) : ∃ (fb : Nat) (fc : Nat) (w' : World), (∀ ty, (Builtin.append_ #[35, 35] ty #[.slice a B c, .slice (some ⟨W.heap.size, 0, none⟩) 2 2]).run Tryd.prog (W.alloc (.cells #[.int .u8 170, .int .u8 187] 5)) = .ok (.slice (some ⟨fb, 0, none⟩) B2 fc) w') ∧ B2 ≤ fc ∧ Aside (Ny w w' (.slice (some ⟨fb, 0, none⟩) B2 fc) (ns ++ [170, 187])) := by
  have K : Keeps Nowhere W (W.alloc (.cells #[.int .u8 170, .int .u8 187] 5)) := (Keeps.refl _ _).alloc _
  obtain ⟨fa, fc, w', run, N⟩ := appRun (m := B2) (OwnB.later h.row K.bel) (h.k.trans K) (rd_new W [170, 187] 2 rfl) (by simp; omega) (by rw [List.length_append, hB, hB2]; rfl)
  obtain ⟨fb, fc', e, _⟩ := XB.cell (N.it.xb (fun _ => 0) 0) (j := B) (y := 170) (by rw [List.getElem?_append_right (by omega), hB, Nat.sub_self]; rfl)
  obtain ⟨_, c2, e2, h2⟩ := XB.shape (N.it.xb (fun _ => 0) 0)
  injection e with e1 e3 e4
  injection e2 with _ e5 e6
  subst e1
  exact ⟨fb, fc, w', run, by omega, N⟩
theorem Rd.front {a : Option Addr} {R c k : Nat} (h : Rd W (.slice a R c) ns) (hk : k ≤ ns.length) : Rd W (.slice a k c) (ns.take k) := by
  obtain ⟨⟨a', c', e, hl, hc⟩, hn⟩ := h
  injection e with e1 e2 e3
  subst e1 e3
  refine ⟨⟨a, c, by rw [bv_length, List.length_take, Nat.min_eq_left hk], by rw [bv_length, List.length_take]; rw [bv_length] at hl; omega, fun j u hj => hc j u ?_⟩, fun l' c'' e => ?_⟩
  · rw [bv, List.map_take, List.getElem?_take] at hj
    split at hj
    · exact hj
    · cases hj
  · injection e with e1 e2 e3
    subst e1 e3
    exact hn _ _ rfl
theorem full_take {k fb B B2 fc : Nat} (h : XB own W k (.slice (some ⟨fb, 0, none⟩) B2 fc) (ns ++ [170, 187])) (hB : ns.length = B) : Rd W (.slice (some ⟨fb, 0, none⟩) B fc) ns := by
  have := h.rd.front (k := B) (by rw [List.length_append, hB]; omega)
  rwa [List.take_append_of_le_length (by omega), List.take_of_length_le (by omega)] at this
end
/-- an op's cells -/
def O8 (W : World) (b o : Nat) (kd v t f s l : Int) (sl : Value) (n : Int) : Prop := W.cell? ⟨b, o, none⟩ = some (.int .i64 kd) ∧ W.cell? ⟨b, o + 1, none⟩ = some (.int .u8 v) ∧ W.cell? ⟨b, o + 2, none⟩ = some (.int .u8 t) ∧ W.cell? ⟨b, o + 3, none⟩ = some (.int .u16 f) ∧ W.cell? ⟨b, o + 4, none⟩ = some (.int .u32 s) ∧ W.cell? ⟨b, o + 5, none⟩ = some (.int .u32 l) ∧ W.cell? ⟨b, o + 6, none⟩ = some sl ∧ W.cell? ⟨b, o + 7, none⟩ = some (.int .i64 n)
theorem op6_at {w : World} {a : Option Addr} {zs : List OpV6} {j : Nat} {kd v t f s l : Int} {sl : Value} {ns : List Int} {n : Int} (h : ∀ i z, zs[i]? = some z → ∃ b o cs, a = some ⟨b, o, none⟩ ∧ Op6Ok w 1048576 z cs ∧ cs.length = 8 ∧ ∀ j, j < 8 → w.cell? ⟨b, o + i * 8 + j, none⟩ = cs[j]?) (hz : zs[j]? = some ⟨kd, ⟨v, t, f, s, l⟩, sl, ns, n⟩) :
    ∃ b o, a = some ⟨b, o, none⟩ ∧ O8 w b (o + j * 8) kd v t f s l sl n ∧ Op6Ok w 1048576 ⟨kd, ⟨v, t, f, s, l⟩, sl, ns, n⟩ (OpV6.cells ⟨kd, ⟨v, t, f, s, l⟩, sl, ns, n⟩) := by
  obtain ⟨b, o, cs, rfl, hok, _, hc⟩ := h j _ hz
  have e := hok.1
  subst e
  exact ⟨b, o, rfl, ⟨hc 0 (by decide), hc 1 (by decide), hc 2 (by decide), hc 3 (by decide), hc 4 (by decide), hc 5 (by decide), hc 6 (by decide), hc 7 (by decide)⟩, hok⟩
section
variable {A : Nat → Addr} {own own' own2 : Nat → Nat} {w w' w0 W : World} {lv mv fv fv' xv xv' : Value} {vs us : List Value} {Lv Lu rs rd ss Ls : List (List Int)} {tot tq : Nat} {p q wb xb nb b o ob : Nat} {I : Nat → Prop} {X : List (Nat × TypeId × List Value)} {kd v t f s l n : Int} {sl lf fa : Value} {L F : List Int} {Y : List (Value × List Int)}
theorem O8.up (h : O8 w0 b o kd v t f s l sl n) (g : OnG A w0 own W) : O8 W b o kd v t f s l sl n := ⟨g.cell h.1, g.cell h.2.1, g.cell h.2.2.1, g.cell h.2.2.2.1, g.cell h.2.2.2.2.1, g.cell h.2.2.2.2.2.1, g.cell h.2.2.2.2.2.2.1, g.cell h.2.2.2.2.2.2.2⟩
theorem Oj.more {tot2 tq2 : Nat} (h : Oj A w0 own W p rs tot fv rd fv' wb q ss tq xv xv' xb lv vs mv us Lv Lu X) (h1 : tot ≤ tot2) (h2 : tq ≤ tq2) : Oj A w0 own W p rs tot2 fv rd fv' wb q ss tq2 xv xv' xb lv vs mv us Lv Lu X := ⟨h.g, h.bp.more h1, h.dr, h.bq.more h2, h.dq, h.cw, h.cx, h.l, h.x, h.ne⟩
/-- behind the loop: the buffers, what the documents' Takes answered, the lists; what was taken since (30) -/
structure Oe (A : Nat → Addr) (w0 : World) (own : Nat → Nat) (W : World) (p : Nat) (rs : List (List Int)) (tot q : Nat) (ss : List (List Int)) (tq : Nat) (lf : Value) (L : List Int) (fa : Value) (F : List Int) (Y : List (Value × List Int)) : Prop where
  g : OnG A w0 own W
  bp : BufO own 11 12 W p rs tot
  bq : BufO own 1 2 W q ss tq
  lf : RdO own 13 W lf L
  fa : RdO own 3 W fa F
  r : ∀ z ∈ Y, RdO own 30 W z.1 z.2
theorem Oe.sn (h : Oe A w0 own W p rs tot q ss tq lf L fa F Y) (s : Sn I own W own' w') (hI : ∀ k, k ≤ 30 → ¬ I k) : Oe A w0 own' w' p rs tot q ss tq lf L fa F Y :=
  ⟨h.g.sn s (hI 0 (by decide)), h.bp.sn s (hI _ (by decide)) (hI _ (by decide)), h.bq.sn s (hI _ (by decide)) (hI _ (by decide)), h.lf.sn s (hI _ (by decide)), h.fa.sn s (hI _ (by decide)), fun z hz => (h.r z hz).sn s (hI _ (by decide))⟩
/-- what the last region reads -/
theorem Oe.str {S T : ByteArray} (h : Aside (Oe A w0 own W p rs tot q ss tq lf L fa F Y)) (hS : Aside (strOf L = S)) (hT : Aside (strOf F = T)) : (convert 35 9 lf).run Tryd.prog W = .ok (.string S) W ∧ (convert 35 9 fa).run Tryd.prog W = .ok (.string T) W := ⟨str_run h.it.lf.1 hS, str_run h.it.fa.1 hT⟩
theorem oe_apart (h : Oe A w0 own W p rs tot q ss tq lf L fa F []) (hl : Ls5 own W lv vs mv us Ls Ls) (hn : Ls.length ≤ 1048576) (hb : ∀ k, (Ls.getD k []).length ≤ 4398046511104) :
    Calls Tryd.prog 12 #[lv] W fun e w' => e = .returned (.bool true) ∧ ∃ own', Aside (Oe A w0 own' w' p rs tot q ss tq lf L fa F []) := by
  refine (apart_any (fun k => Ls.getD k []) hl.lo hl.xs (by rw [hl.n1]; exact hn) (fun k _ => hb k)).mono ?_
  rintro e w' ⟨rfl, own', s⟩
  exact ⟨rfl, own', ⟨h.sn s.it (fun k hk => by show ¬ (_ ∨ _); omega)⟩⟩
theorem oe_takeP (h : Aside (Oe A w0 own W p rs tot q ss tq lf L fa F Y)) (ht : tot ≤ 4398046511103) : Calls Tryd.prog 8 #[ptr p, .int .i64 1073741824] W fun e w' => ∃ a l c own' rs', e = .returned (.slice a l c) ∧ Aside (Oe A w0 own' w' p rs' tot q ss tq lf L fa F ((.slice a l c, rs.flatten.take 1073741824) :: Y)) := by
  refine (takeB (o := 30) (by decide) (by decide) (by decide) h.it.bp ht 1073741824).mono ?_
  rintro e w' ⟨x, own', rfl, T⟩
  obtain ⟨a, c, e1⟩ := T.it.row.shape
  subst e1
  have s := T.it.sn
  refine ⟨a, _, c, own', _, rfl, ⟨h.it.g.sn s (by decide), T.it.buf, h.it.bq.sn s (by decide) (by decide), h.it.lf.sn s (by decide), h.it.fa.sn s (by decide), fun z hz => ?_⟩⟩
  rcases List.mem_cons.1 hz with rfl | hz
  · exact T.it.row.rdO
  · exact (h.it.r z hz).sn s (by decide)
theorem oe_takeQ (h : Aside (Oe A w0 own W p rs tot q ss tq lf L fa F Y)) (ht : tq ≤ 4398046511103) : Calls Tryd.prog 8 #[ptr q, .int .i64 1073741824] W fun e w' => ∃ a l c own' ss', e = .returned (.slice a l c) ∧ Aside (Oe A w0 own' w' p rs tot q ss' tq lf L fa F ((.slice a l c, ss.flatten.take 1073741824) :: Y)) := by
  refine (takeB (o := 30) (by decide) (by decide) (by decide) h.it.bq ht 1073741824).mono ?_
  rintro e w' ⟨x, own', rfl, T⟩
  obtain ⟨a, c, e1⟩ := T.it.row.shape
  subst e1
  have s := T.it.sn
  refine ⟨a, _, c, own', _, rfl, ⟨h.it.g.sn s (by decide), h.it.bp.sn s (by decide) (by decide), T.it.buf, h.it.lf.sn s (by decide), h.it.fa.sn s (by decide), fun z hz => ?_⟩⟩
  rcases List.mem_cons.1 hz with rfl | hz
  · exact T.it.row.rdO
  · exact (h.it.r z hz).sn s (by decide)
theorem oe_str1 {u : Value} {l : List Int} {S : ByteArray} (h : Aside (Oe A w0 own W p rs tot q ss tq lf L fa F ((u, l) :: Y))) (hS : Aside (strOf l = S)) : (convert 35 9 u).run Tryd.prog W = .ok (.string S) W := str_run (h.it.r _ List.mem_cons_self).1 hS
theorem oe_str2 {u u2 : Value} {l m : List Int} {S : ByteArray} (h : Aside (Oe A w0 own W p rs tot q ss tq lf L fa F ((u2, m) :: (u, l) :: Y))) (hS : Aside (strOf l = S)) : (convert 35 9 u).run Tryd.prog W = .ok (.string S) W := str_run (h.it.r _ (List.mem_cons_of_mem _ List.mem_cons_self)).1 hS
/-- the document's Take of the other one -/
theorem oj_refTakeX (h : Oj A w0 own W p rs tot fv rd fv' wb q ss tq xv xv' xb lv vs mv us Lv Lu X) (n : Int) (hT : ss.flatten.length ≤ 4398046511103) (hM : ss.length ≤ 4398046511103) : Calls Tryd.prog 7 #[.agg #[xv], .int .i64 n] W fun e w' => ∃ a l c ga gl gc own', e = .returned (.tuple #[.agg #[.slice a l c], .slice ga gl gc]) ∧ Aside (Oj A w0 own' w' p rs tot fv rd fv' wb q ss tq xv xv' xb lv vs mv us Lv Lu X ∧ RdO own' 3 w' (.slice ga gl gc) (ss.flatten.take n.toNat) ∧ Keeps Nowhere W w' ∧ own' = give own W.heap.size 3) := by
  refine (refTake6 h.dq n hT hM).mono ?_
  rintro e w' ⟨fu, gv, rfl, Y⟩
  obtain ⟨y1, y2, k⟩ := Y.it
  obtain ⟨a, c, e1, _⟩ := y1.at
  obtain ⟨ga, gc, e2⟩ := y2.shape
  subst e1 e2
  exact ⟨a, _, c, ga, _, gc, _, rfl, ⟨h.step k 3, y2, k, rfl⟩⟩
theorem Oj.op8 {v0 v1 v2 v3 v4 v5 v6 v7 : Value} (h : Oj A w0 own W p rs tot fv rd fv' wb q ss tq xv xv' xb lv vs mv us Lv Lu X) (hm : (ob, 39, [v0, v1, v2, v3, v4, v5, v6, v7]) ∈ X) : W.cell? ⟨ob, 0, none⟩ = some v0 ∧ W.cell? ⟨ob, 1, none⟩ = some v1 ∧ W.cell? ⟨ob, 2, none⟩ = some v2 ∧ W.cell? ⟨ob, 3, none⟩ = some v3 ∧ W.cell? ⟨ob, 4, none⟩ = some v4 ∧ W.cell? ⟨ob, 5, none⟩ = some v5 ∧ W.cell? ⟨ob, 6, none⟩ = some v6 ∧ W.cell? ⟨ob, 7, none⟩ = some v7 := by
  have hc := (h.x _ hm).1
  exact ⟨by rw [hc.cell]; rfl, by rw [hc.cell]; rfl, by rw [hc.cell]; rfl, by rw [hc.cell]; rfl, by rw [hc.cell]; rfl, by rw [hc.cell]; rfl, by rw [hc.cell]; rfl, by rw [hc.cell]; rfl⟩
theorem Oj.f6 {v0 v1 v2 v3 v4 v5 : Value} (h : Oj A w0 own W p rs tot fv rd fv' wb q ss tq xv xv' xb lv vs mv us Lv Lu X) (hm : (ob, 37, [v0, v1, v2, v3, v4, v5]) ∈ X) : W.cell? ⟨ob, 0, none⟩ = some v0 ∧ W.cell? ⟨ob, 1, none⟩ = some v1 ∧ W.cell? ⟨ob, 2, none⟩ = some v2 ∧ W.cell? ⟨ob, 3, none⟩ = some v3 ∧ W.cell? ⟨ob, 4, none⟩ = some v4 ∧ W.cell? ⟨ob, 5, none⟩ = some v5 ∧ W.frozen? ⟨ob, 5, none⟩ = false := by
  have hc := (h.x _ hm).1
  exact ⟨by rw [hc.cell]; rfl, by rw [hc.cell]; rfl, by rw [hc.cell]; rfl, by rw [hc.cell]; rfl, by rw [hc.cell]; rfl, by rw [hc.cell]; rfl, hc.frozen 5⟩
theorem Oj.n1 {v0 : Value} (h : Oj A w0 own W p rs tot fv rd fv' wb q ss tq xv xv' xb lv vs mv us Lv Lu X) (hm : (ob, 28, [v0]) ∈ X) : W.cell? ⟨ob, 0, none⟩ = some v0 ∧ ob < W.heap.size := by
  have hc := (h.x _ hm).1
  exact ⟨by rw [hc.cell]; rfl, hc.lt⟩
/-- f.Data is written -/
theorem Oj.setF {c0 c1 c2 c3 c4 c5 u : Value} {fb : Nat} {os : List Value} (h : Oj A w0 own W p rs tot fv rd fv' wb q ss tq xv xv' xb lv vs mv us Lv Lu [(fb, 37, [c0, c1, c2, c3, c4, c5]), (ob, 39, os)]) (hn : fb ≠ wb ∧ fb ≠ xb ∧ fb ≠ ob) : Oj A w0 own (W.setCell ⟨fb, 5, none⟩ u) p rs tot fv rd fv' wb q ss tq xv xv' xb lv vs mv us Lv Lu [(fb, 37, [c0, c1, c2, c3, c4, u]), (ob, 39, os)] := by
  have hf := h.x _ List.mem_cons_self
  have ho := h.x _ (List.mem_cons_of_mem _ List.mem_cons_self)
  have s8 := box_sn (c0 := u) (i := 5) hf
  refine ⟨h.g.sn s8 (by decide), h.bp.sn s8 (by decide) (by decide), h.dr.sn s8 (by decide), h.bq.sn s8 (by decide) (by decide), h.dq.sn s8 (by decide), box_oth h.cw (fun e => hn.1 e.symm), box_oth h.cx (fun e => hn.2.1 e.symm), h.l.sn s8 (by decide) (by decide) (by decide) (fun r _ => by omega), fun z hz => ?_, h.ne⟩
  rcases List.mem_cons.1 hz with rfl | hz
  · exact ⟨hf.1.setCell 5 u, hf.2⟩
  · rw [List.mem_singleton] at hz
    subst hz
    exact box_oth ho (fun e => hn.2.2 e.symm)
/-- what region 29 reads -/
theorem Oj.s29 {S : ByteArray} {ns : List Int} {nx f8 fb B B2 fc sc k : Nat} {nv : Value} {sa : Option Addr} {l6 kd7 n7 : Int} (h : Aside (Oj A w0 own W p rs tot fv rd fv' wb q ss tq xv xv' xb lv vs mv us Lv Lu [(nx, 28, [nv]), (f8, 37, [.int .u8 v, .int .u8 t, .int .u16 f, .int .u32 s, .int .u32 l6, .slice (some ⟨fb, 0, none⟩) B fc]), (ob, 39, [.int .i64 kd7, .int .u8 v, .int .u8 t, .int .u16 f, .int .u32 s, .int .u32 l6, .slice sa B sc, .int .i64 n7])] ∧ XB own W k (.slice (some ⟨fb, 0, none⟩) B2 fc) (ns ++ [170, 187]))) (hB : Aside (ns.length = B)) (hr : Aside (Rd w0 (.slice sa B sc) ns)) (hS : Aside (strOf ns = S)) :
    (W.cell? ⟨f8, 0, none⟩ = some (.int .u8 v) ∧ W.cell? ⟨f8, 1, none⟩ = some (.int .u8 t) ∧ W.cell? ⟨f8, 2, none⟩ = some (.int .u16 f) ∧ W.cell? ⟨f8, 3, none⟩ = some (.int .u32 s) ∧ W.cell? ⟨f8, 4, none⟩ = some (.int .u32 l6) ∧ W.cell? ⟨f8, 5, none⟩ = some (.slice (some ⟨fb, 0, none⟩) B fc)) ∧ W.cell? ⟨ob, 6, none⟩ = some (.slice sa B sc) ∧ (convert 35 9 (.slice (some ⟨fb, 0, none⟩) B fc)).run Tryd.prog W = .ok (.string S) W ∧ (convert 35 9 (.slice sa B sc)).run Tryd.prog W = .ok (.string S) W ∧ W.cell? ⟨fb, B, none⟩ = some (.int .u8 170) ∧ W.cell? ⟨fb, B + 1, none⟩ = some (.int .u8 187) := by
  obtain ⟨x0, x1, x2, x3, x4, x5, _⟩ := h.it.1.f6 (List.mem_cons_of_mem _ List.mem_cons_self)
  obtain ⟨_, _, _, _, _, _, y6, _⟩ := h.it.1.op8 (List.mem_cons_of_mem _ (List.mem_cons_of_mem _ List.mem_cons_self))
  refine ⟨⟨x0, x1, x2, x3, x4, x5⟩, y6, str_run (full_take h.it.2 hB.it) hS, str_run (hr.it.later h.it.1.g.g.bel) hS, ?_, ?_⟩
  · obtain ⟨b', c', e, hc⟩ := XB.cell h.it.2 (j := B) (y := 170) (by rw [List.getElem?_append_right (by rw [hB.it]; exact Nat.le_refl _), hB.it, Nat.sub_self]; rfl)
    injection e with e _ _
    injection e with e
    injection e with e
    subst e
    exact hc
  · obtain ⟨b', c', e, hc⟩ := XB.cell h.it.2 (j := B + 1) (y := 187) (by rw [List.getElem?_append_right (by rw [hB.it]; omega), hB.it, Nat.add_sub_cancel_left]; rfl)
    injection e with e _ _
    injection e with e
    injection e with e
    subst e
    exact hc
theorem oj_put9 {ns : List Int} {dd u : Value} {k : Nat} {l6 : Int} {T : List Int} (h : Aside (Oj A w0 own W p rs tot fv rd fv' wb q ss tq xv xv' xb lv vs mv us Lv Lu X ∧ XB own W k u T)) (hd : Rd W dd ns) (hn : ns.length ≤ 1048576) (hh : HV.ok ⟨v, t, f, s, l6⟩) (htot : tot ≤ 4398044413932) : Calls Tryd.prog 11 #[ptr p, .agg #[.int .u8 v, .int .u8 t, .int .u16 f, .int .u32 s, .int .u32 l6, dd]] W fun e w' => ∃ ev own', e = .returned ev ∧ Aside (Coded A ev (bE t l6 ns.length)) ∧ Aside (Oj A w0 own' w' p (putL rs v t f s l6 ns) (tot + 1048588) fv rd fv' wb q ss tq xv xv' xb lv vs mv us Lv Lu X ∧ XB own' w' k u T) := by
  obtain ⟨_, _, ⟨h1, h2⟩, ⟨h3, h4⟩, h5, h6⟩ := hh
  refine (oj_put h.it.1 hd hn h1 h2 h3 h4 h5 h6 htot).mono ?_
  rintro e w' ⟨ev, own', rfl, Z⟩
  exact ⟨ev, own', rfl, ⟨Z.it.2.1⟩, ⟨Z.it.1, h.it.2.sn Z.it.2.2 (by omega)⟩⟩
theorem oe_begin (h : Oj A w0 own W p rs tot fv rd fv' wb q ss tq xv xv' xb lv vs mv us Lv Lu X) (h1 : RdO own 13 W lf L) (h2 : RdO own 3 W fa F) : Oe A w0 own W p rs tot q ss tq lf L fa F [] := ⟨h.g, h.bp, h.bq, h1, h2, fun z hz => (by cases hz)⟩
end
end Go.Proofs.YtfphoaphdfhhiaaDoor

/-
  culvertlaw06.OutOwn
-/
namespace Go.Proofs.YtfphoaphdfhhiaaDoor
open Go.RowKit
attribute [-go_sem] Builtin.append_

/-- the sizes -/
structure Bo (j n : Nat) (Ls : List (List Int)) : Prop where
  fn : Ls.length = n
  fj : n ≤ j
  fl : ∀ k, (Ls.getD k []).length ≤ 4398046511104
theorem Bo.next {j n : Nat} {Ls : List (List Int)} (h : Bo j n Ls) : Bo (j + 1) n Ls := ⟨h.fn, by have := h.fj; omega, h.fl⟩
theorem Bo.push {j n : Nat} {Ls : List (List Int)} {T : List Int} (h : Bo j n Ls) (hT : T.length ≤ 4398046511104) : Bo (j + 1) (n + 1) (Ls ++ [T]) := by
  refine ⟨by rw [List.length_append, h.fn]; rfl, by have := h.fj; omega, fun k => ?_⟩
  rcases Nat.lt_trichotomy k Ls.length with hk | hk | hk
  · rw [getD_app hk]; exact h.fl k
  · subst hk; rw [getD_last]; exact hT
  · rw [List.getD_eq_getElem?_getD, List.getElem?_eq_none (by simp; omega)]; exact Nat.zero_le _
theorem mul_next {j : Nat} : j * 1048588 ≤ (j + 1) * 1048588 := Nat.mul_le_mul_right _ (Nat.le_succ _)
theorem mul_room {j : Nat} (h : j ≤ 1048576) : j * 1048588 ≤ 1099524210688 := Nat.mul_le_mul_right 1048588 h
set_option maxRecDepth 20000 in
set_option maxHeartbeats 40000000 in
theorem outOwn_walkU {A : Nat → Addr} (s : Value) (zs : List OpV6) (t : Value) (ys : List OpV6) (w : World) (hs : Sents 103 codeVars A w) (hz : Ops6Arg w s zs) (hy : Ops6Arg w t ys) :
    Calls Tryd.prog 3 #[s, t] w fun e w' => e = .returned (.bool true) ∧ Below w.heap.size w w' := by
  obtain ⟨hy20, a2, c2, rfl, hyc, _, hyat⟩ := hy
  have HY := Aside.mk hyat
  obtain ⟨M, hM⟩ : ∃ M, ys.length = M := ⟨_, rfl⟩
  have HM := Aside.mk hM
  rw [hM] at hyc hy20 ⊢
  have hMm : (M : Int) ≤ 1048576 := by omega
  clear hM hyat
  obtain ⟨hz20, a, c, rfl, hzc, _, hzat⟩ := hz
  have HZ := Aside.mk hzat
  obtain ⟨N, hN⟩ : ∃ N, zs.length = N := ⟨_, rfl⟩
  have HN := Aside.mk hN
  rw [hN] at hzc hz20 ⊢
  have WK := Aside.mk (wakes_any hs)
  have HS := Aside.mk hs
  have hNm : (N : Int) ≤ 1048576 := by omega
  clear hs hN hzat
  go_enter Tryd.func3, Tryd.ntmps3
  go_upto_region 3 with (go_at_call 4; refine WK.it.mono ?_; rintro e w1 ⟨rfl, b1⟩; have K1 := Aside.mk (Keeps.ofBelow (S := Nowhere) b1); clear b1)
  clear WK
  have NW := Aside.mk (newB w1 (fun _ => 0) 11 12)
  go_upto_region 4 with (first
    | (go_at_call 5; refine NQ.it.mono ?_; clear NQ; rintro e w3 ⟨q, own3, rfl, X3⟩)
    | (go_at_call 5; refine NW.it.mono ?_; clear NW; rintro e w2 ⟨p, own2, rfl, X2⟩; have NQ := Aside.mk (newB w2 own2 1 2))
    | fail)
  obtain ⟨wb, hwb⟩ : ∃ wb, w3.heap.size = wb := ⟨_, rfl⟩
  obtain ⟨own4, P4⟩ : ∃ own4, Aside (Oj A w own4 ((w3.alloc (.cells #[.slice none 0 0] 28)).alloc (.cells #[.slice none 0 0] 28)) p [] 0 (.slice none 0 0) [] (.slice none 0 0) wb q [] 0 (.slice none 0 0) (.slice none 0 0) (wb + 1) (.slice none 0 0) [] (.slice none 0 0) [] [] [] []) := by
    have G1 := (OnG.start HS.it).sn (I := fun _ => False) (Sn.same K1.it) (fun x => x)
    have k3 : Keeps Nowhere w3 ((w3.alloc (.cells #[.slice none 0 0] 28)).alloc (.cells #[.slice none 0 0] 28)) := ((Keeps.refl _ _).alloc _).alloc _
    have s3 : Sn (fun _ => False) own3 w3 (give own3 w3.heap.size 8) ((w3.alloc (.cells #[.slice none 0 0] 28)).alloc (.cells #[.slice none 0 0] 28)) := Sn.quiet k3 8
    refine ⟨_, ⟨((G1.sn X2.it.2 (fun x => x)).sn X3.it.2 (fun x => x)).sn s3 (fun x => x), (X2.it.1.sn X3.it.2 (fun x => x) (fun x => x)).sn s3 (fun x => x) (fun x => x), RdL.nil _ _ _, X3.it.1.sn s3 (fun x => x) (fun x => x), RdL.nil _ _ _, ⟨?_, give_new (by omega)⟩, ⟨?_, give_new (by omega)⟩, Ls5.nil _ _, fun z hz => (by cases hz), by omega⟩⟩
    · rw [← hwb]
      exact (Cells.new w3 _ [.slice none 0 0]).later (S := Nowhere) ((Keeps.refl _ _).alloc _) (fun x => x)
    · rw [← hwb]
      have h := Cells.new (w3.alloc (.cells #[.slice none 0 0] 28)) 28 [.slice none 0 0]
      rw [World.size_alloc] at h
      exact h
  go_upto_region 5 with fail
  clear hwb X2 X3
  generalize ((w3.alloc (.cells #[.slice none 0 0] 28)).alloc (.cells #[.slice none 0 0] 28)) = W4 at P4 ⊢
  go_upto_region 6 with fail
  go_wp2_with fail
  go_loopw [9, 10, 11] (fun lv mv iv wr => ∃ (j n : Nat) (fa : Option Addr) (fl fc : Nat) (rs : List (List Int)) (xa : Option Addr) (xl xc : Nat) (ss : List (List Int)) (la : Option Addr) (lc : Nat) (vs : List Value) (ma : Option Addr) (mc : Nat) (us : List Value) (Ls : List (List Int)) (own : Nat → Nat), lv = .slice la n lc ∧ mv = .slice ma n mc ∧ iv = .int .i64 j ∧ j ≤ max N M ∧ Aside (Bo j n Ls) ∧ Aside (Oj A w own wr p rs (j * 1048588) (.slice fa fl fc) rs (.slice fa fl fc) wb q ss (j * 1048588) (.slice xa xl xc) (.slice xa xl xc) (wb + 1) (.slice la n lc) vs (.slice ma n mc) us Ls Ls [])) (fun _ _ iv _ => max N M - natA iv)
  case atStart => exact ⟨0, 0, none, 0, 0, [], none, 0, 0, [], none, 0, [], none, 0, [], [], own4, rfl, rfl, rfl, Nat.zero_le _, ⟨rfl, Nat.le_refl _, fun k => by simp⟩, ⟨by rw [Nat.zero_mul]; exact P4.it⟩⟩
  case round =>
    clear P4
    obtain ⟨j, n, fa, fl, fc, rs, xa, xl, xc, ss, la, lc, vs, ma, mc, us, Ls, own, rfl, rfl, rfl, hj, HBD, P⟩ := hrel
    by_cases hjn : N ≤ j ∧ M ≤ j
    · obtain ⟨j1, j2⟩ := hjn
      have j1' : ¬ (j : Int) < N := by omega
      have j2' : ¬ (j : Int) < M := by omega
      have h1' : decide (j < N) = false := decide_eq_false (by omega)
      have h2' : decide (j < M) = false := decide_eq_false (by omega)
      have hn20 : Aside (n ≤ 1048576) := ⟨by have := HBD.it.fj; omega⟩
      have HJ := Aside.mk (mul_room (show j ≤ 1048576 by omega))
      have hnI : (n : Int) ≤ 1048576 := by have := hn20.it; omega
      clear HS HY HZ HN HM
      as_aux_lemma =>
        go_upto_region 39 with fail
        clear h1' h2' j1 j2 j1' j2'
        go_wp2_with fail
        go_loopw [23] (fun iv wx => ∃ (i : Nat), iv = .int .i64 i ∧ i ≤ n ∧ Aside (Oj A w own wx p rs (j * 1048588) (.slice fa fl fc) rs (.slice fa fl fc) wb q ss (j * 1048588) (.slice xa xl xc) (.slice xa xl xc) (wb + 1) (.slice la n lc) vs (.slice ma n mc) us Ls Ls [])) (fun iv _ => n - natA iv)
        case atStart => exact ⟨0, rfl, Nat.zero_le _, P⟩
        case round =>
          clear P
          obtain ⟨i, rfl, hi, P⟩ := hrel
          by_cases hin : i < n
          · have hin' : (i : Int) < n := by omega
            have i0 : (i : Int) ≤ 9223372036854775806 := by omega
            obtain ⟨vi, ei⟩ : ∃ v, vs[i]? = some v := ⟨_, List.getElem?_eq_getElem (by rw [P.it.l.n1, HBD.it.fn]; exact hin)⟩
            obtain ⟨ui, eu⟩ : ∃ v, us[i]? = some v := ⟨_, List.getElem?_eq_getElem (by rw [P.it.l.n2, HBD.it.fn]; exact hin)⟩
            have Pd := Aside.mk (P.it.quiet (Keeps.refl _ _).drew)
            obtain ⟨S, hS⟩ : ∃ S, Aside (strOf (Ls.getD i []) = S) := ⟨_, ⟨rfl⟩⟩
            have s1 := str_run (Pd.it.l.xs i vi ei).rd hS
            have s2 := str_run (Pd.it.l.ws i ui eu).1 hS
            obtain ⟨vb, vc', ev, _, c1⟩ := rowS_cell Pd.it.l.lo ei
            obtain ⟨ub, uc', eu', _, c2'⟩ := rowS_cell Pd.it.l.mo eu
            obtain ⟨va, vk, rfl⟩ := (Pd.it.l.xs i vi ei).rd.shape
            obtain ⟨ua, uk, rfl⟩ := (Pd.it.l.ws i ui eu).1.shape
            injection ev with ev _ _
            injection eu' with eu' _ _
            subst ev eu'
            clear P ei eu
            obtain ⟨ll, hll⟩ : ∃ ll, (Ls.getD i []).length = ll := ⟨_, rfl⟩
            rw [hll] at s1 s2 c1 c2'
            clear hll
            have SS := Aside.mk (show _ ∧ _ ∧ _ ∧ _ from ⟨c1, c2', s1, s2⟩)
            go_upto_region 42 with fail
            go_region_held_law (fun w' => w'.cell? ⟨vb, i, none⟩ = some (.slice va ll vk) ∧ w'.cell? ⟨ub, i, none⟩ = some (.slice ua ll uk) ∧ (convert 35 9 (.slice va ll vk)).run Tryd.prog w' = .ok (.string S) w' ∧ (convert 35 9 (.slice ua ll uk)).run Tryd.prog w' = .ok (.string S) w') (exact SS.it) (fail)
            all_goals
              go_wp2_with fail
              go_roundw
              case rel => exact ⟨i + 1, by go_num, hin, Pd⟩
              case measure => simp [natA]; omega
          · have hin' : ¬ (i : Int) < n := by omega
            have hl := Aside.mk HBD.it.fl
            have hnL : Aside (Ls.length ≤ 1048576) := ⟨by rw [HBD.it.fn]; exact hn20.it⟩
            have FB := Aside.mk (show rs.flatten.length ≤ 4398046511103 ∧ rs.length ≤ 4398046511103 ∧ ss.flatten.length ≤ 4398046511103 ∧ ss.length ≤ 4398046511103 ∧ j * 1048588 ≤ 4398046511103 from by have := P.it.bp.flat_le; have := P.it.bp.len_le; have := P.it.bq.flat_le; have := P.it.bq.len_le; have := HJ.it; omega)
            obtain ⟨u0, _⟩ := P.it.cellsW
            have DT := Aside.mk (oj_refTake P.it 1073741824 FB.it.1 FB.it.2.1)
            go_upto_region 45 with (first
              | (go_at_call 7; refine DT.it.mono ?_; clear DT u0; rintro e w5 ⟨na, nl, nc, ga, gl, gc, own5, rfl, X5⟩)
              | fail)
            have P6 := Aside.mk (X5.it.1.step ((Keeps.refl _ _).alloc (.cells #[.slice na nl nc] 28)) 8)
            have R6 := Aside.mk (X5.it.2.sn (I := fun _ => False) (Sn.quiet ((Keeps.refl _ _).alloc (.cells #[.slice na nl nc] 28)) 8) (fun x => x))
            generalize give own5 w5.heap.size 8 = own6 at P6 R6
            generalize (w5.alloc (.cells #[.slice na nl nc] 28)) = W6 at P6 R6 ⊢
            clear X5 P
            obtain ⟨u0, _⟩ := P6.it.cellsX
            have DT := Aside.mk (oj_refTakeX P6.it 1073741824 FB.it.2.2.1 FB.it.2.2.2.1)
            go_upto_region 46 with (first
              | (go_at_call 7; refine DT.it.mono ?_; clear DT u0; rintro e w7 ⟨ma7, ml7, mc7, ha, hl7, hc, own7, rfl, X7⟩)
              | fail)
            obtain ⟨y1, y2, y3, rfl⟩ := X7.it
            have P8 := Aside.mk ((y1.step ((Keeps.refl _ _).alloc (.cells #[.slice ma7 ml7 mc7] 28)) 8).quiet (Keeps.refl _ _).drew)
            have R8 := Aside.mk (((R6.it.sn (I := fun _ => False) (Sn.quiet y3 3) (fun x => x)).sn (I := fun _ => False) (Sn.quiet ((Keeps.refl _ _).alloc (.cells #[.slice ma7 ml7 mc7] 28)) 8) (fun x => x)).sn (I := fun _ => False) (Sn.same (Keeps.refl _ _).drew) (fun x => x))
            have Q8 := Aside.mk ((y2.sn (I := fun _ => False) (Sn.quiet ((Keeps.refl _ _).alloc (.cells #[.slice ma7 ml7 mc7] 28)) 8) (fun x => x)).sn (I := fun _ => False) (Sn.same (Keeps.refl _ _).drew) (fun x => x))
            clear y1 y2 y3 X7 P6 R6
            obtain ⟨S, hS⟩ : ∃ S, Aside (strOf (rs.flatten.take 1073741824) = S) := ⟨_, ⟨rfl⟩⟩
            obtain ⟨T, hT⟩ : ∃ T, Aside (strOf (ss.flatten.take 1073741824) = T) := ⟨_, ⟨rfl⟩⟩
            have E8 : Aside (Oe A w _ _ p rs (j * 1048588) q ss (j * 1048588) (.slice ga gl gc) (rs.flatten.take 1073741824) (.slice ha hl7 hc) (ss.flatten.take 1073741824) []) := ⟨oe_begin P8.it R8.it Q8.it⟩
            have AP := Aside.mk (oe_apart E8.it P8.it.l hnL.it hl.it)
            have FT := Aside.mk FB.it.2.2.2.2
            clear P8 R8 Q8 hl hnL FB HJ HBD hn20
            go_region_held_law (fun w' => (convert 35 9 (.slice ga gl gc)).run Tryd.prog w' = .ok (.string S) w' ∧ (convert 35 9 (.slice ha hl7 hc)).run Tryd.prog w' = .ok (.string T) w') (with_reducible exact Oe.str (by with_reducible assumption) hS hT) (first
              | (go_at_call 12; with_reducible refine AP.it.mono ?_; rintro e w21 ⟨rfl, own21, P21⟩)
              | (go_at_call 8; with_reducible refine (oe_takeQ P22 FT.it).mono ?_; rintro e w23 ⟨ka, kl, kc, own23, ss23, rfl, P23⟩; have t3 := oe_str1 P23 hT; have t4 := oe_str2 P23 hS)
              | (go_at_call 8; with_reducible refine (oe_takeP P21 FT.it).mono ?_; rintro e w22 ⟨ja, jl, jc', own22, rs22, rfl, P22⟩; have t1 := oe_str1 P22 hS)
              | fail)
            all_goals
              go_wp2_with fail
              go_ret
              exact ⟨rfl, P23.it.g.g.bel⟩
    · have i1 : (j : Int) ≤ 9223372036854775806 := by omega
      have jc : Aside (j + 1 ≤ max N M) := ⟨by omega⟩
      have jm : Aside (j ≤ 1048576) := ⟨by omega⟩
      have HJ := Aside.mk (mul_room jm.it)
      have HJ1 := Aside.mk (mul_next (j := j))
      go_upto_region 7 with fail
      go_cut [43] (fun y wx => y = .bool true ∧ wx = wr)
      case first =>
        by_cases h1 : j < N
        · have h1' : decide (j < N) = true := decide_eq_true h1
          go_wp2_with fail
          go_meet
          case rel => exact ⟨rfl, rfl⟩
        · have h1' : decide (j < N) = false := decide_eq_false h1
          have h2' : decide (j < M) = true := decide_eq_true (by omega)
          go_wp2_with fail
          go_meet
          case rel => exact ⟨rfl, rfl⟩
      case rest =>
      obtain ⟨rfl, hwr⟩ := hcut
      subst hwr
      generalize wc = wr at P ⊢
      go_upto_if 49 with fail
      go_cut [12] (fun ov wx => ov = .bool true ∧ ∃ (xa2 : Option Addr) (xl2 xc2 : Nat) (ss2 : List (List Int)) (own2 : Nat → Nat), Aside (Oj A w own2 wx p rs (j * 1048588) (.slice fa fl fc) rs (.slice fa fl fc) wb q ss2 ((j + 1) * 1048588) (.slice xa2 xl2 xc2) (.slice xa2 xl2 xc2) (wb + 1) (.slice la n lc) vs (.slice ma n mc) us Ls Ls []))
      case first =>
        by_cases h1 : j < M
        · have h1' : (j : Int) < M := by omega
          obtain ⟨z, hz⟩ : ∃ z, ys[j]? = some z := ⟨_, List.getElem?_eq_getElem (by rw [HM.it]; exact h1)⟩
          obtain ⟨kd, ⟨v, t, f, s, l6⟩, sl, ns, nn⟩ := z
          obtain ⟨b, o, rfl, OC, hok⟩ := op6_at HY.it hz
          obtain ⟨sa, sc, hsl⟩ := hok.2.2.1.shape
          simp only at hsl
          obtain ⟨B, hB⟩ : ∃ B, ns.length = B := ⟨_, rfl⟩
          rw [hB] at hsl
          subst hsl
          have Pd := Aside.mk (P.it.quiet (Keeps.refl _ _).drew)
          have ST : Aside (Calls Tryd.prog 6 #[ptr q, .agg #[.slice xa xl xc], .agg #[.int .i64 kd, .int .u8 v, .int .u8 t, .int .u16 f, .int .u32 s, .int .u32 l6, .slice sa B sc, .int .i64 nn]] wr.drew fun e w' => ∃ a' l' c' own6, e = .returned (.tuple #[.agg #[.slice a' l' c'], .bool true]) ∧ Aside (Oj A w own6 w' p rs (j * 1048588) (.slice fa fl fc) rs (.slice fa fl fc) wb q (stepL ss ⟨kd, ⟨v, t, f, s, l6⟩, .slice sa B sc, ns, nn⟩) (j * 1048588 + 1048588) (.slice a' l' c') (.slice xa xl xc) (wb + 1) (.slice la n lc) vs (.slice ma n mc) us Ls Ls [])) := ⟨oj_stepq Pd _ hok (by have := HJ.it; omega)⟩
          obtain ⟨d0, d1, d2, d3, d4, d5, d6, d7⟩ := OC.up Pd.it.g
          obtain ⟨u0, _⟩ := Pd.it.cellsX
          have j0 : (0 : Int) ≤ j := by omega
          clear P hz OC hok hB Pd
          go_upto_region 11 with fail
          go_region_with (first | (go_at_call 6; refine ST.it.mono ?_; rintro e w6 ⟨qa, ql, qc, own6, rfl, X6⟩; obtain ⟨y0, yf⟩ := X6.it.cellsX) | fail)
          all_goals go_wp2_with fail
          all_goals go_meet
          all_goals exact ⟨rfl, _, _, _, _, _, ⟨X6.it.writeX.more (Nat.le_refl _) (by rw [Nat.succ_mul]; exact Nat.le_refl _)⟩⟩
        · have h1' : ¬ (j : Int) < M := by omega
          go_wp2_with fail
          go_meet
          case rel => exact ⟨rfl, xa, xl, xc, ss, own, ⟨P.it.more (Nat.le_refl _) HJ1.it⟩⟩
      case rest =>
      obtain ⟨rfl, xa2, xl2, xc2, ss2, own2, P2⟩ := hcut
      clear P
      generalize wc = wr at P2 ⊢
      by_cases h1 : j < N
      · have h1' : (j : Int) < N := by omega
        have h1'' : ¬ (N : Int) ≤ j := by omega
        obtain ⟨z, hz⟩ : ∃ z, zs[j]? = some z := ⟨_, List.getElem?_eq_getElem (by rw [HN.it]; exact h1)⟩
        obtain ⟨kd, ⟨v, t, f, s, l6⟩, sl, ns, nn⟩ := z
        obtain ⟨b, o, rfl, OC, hok⟩ := op6_at HZ.it hz
        obtain ⟨sa, sc, hsl⟩ := hok.2.2.1.shape
        simp only at hsl
        obtain ⟨B, hB⟩ : ∃ B, ns.length = B := ⟨_, rfl⟩
        rw [hB] at hsl
        subst hsl
        have HB := Aside.mk hB
        have HRD : Aside (Rd w (.slice sa B sc) ns) := ⟨hok.2.2.1⟩
        have HH : Aside (HV.ok ⟨v, t, f, s, l6⟩) := ⟨hok.2.1⟩
        have hnb : B ≤ 1048576 := by rw [← hB]; exact hok.2.2.2.2.2
        have hn20 : Aside (n ≤ 1048576) := ⟨by have := HBD.it.fj; have := jm.it; omega⟩
        obtain ⟨d0, d1, d2, d3, d4, d5, d6, d7⟩ := OC.up P2.it.g
        have K := Aside.mk (P2.it.box 39 [.int .i64 kd, .int .u8 v, .int .u8 t, .int .u16 f, .int .u32 s, .int .u32 l6, .slice sa B sc, .int .i64 nn])
        have j0 : (0 : Int) ≤ j := by omega
        clear P2 hz OC hok hB
        go_upto_region 16 with fail
        clear d0 d1 d2 d3 d4 d5 d6 d7
        generalize give own2 wr.heap.size 8 = own5 at K
        generalize (wr.alloc (.cells #[.int .i64 kd, .int .u8 v, .int .u8 t, .int .u16 f, .int .u32 s, .int .u32 l6, .slice sa B sc, .int .i64 nn] 39)) = W5 at K ⊢
        generalize wr.heap.size = ob at K ⊢
        obtain ⟨o0, o1, o2, o3, o4, o5, o6, o7⟩ := K.it.op8 List.mem_cons_self
        obtain ⟨u0, _⟩ := K.it.cellsW
        by_cases hk : kd = 1
        · subst hk
          as_aux_lemma =>
            obtain ⟨B2, hB2⟩ : ∃ B2, Aside (B2 = B + 2) := ⟨_, ⟨rfl⟩⟩
            obtain ⟨ca, cc, w6, run6, N6⟩ := copyRun (HRD.it.later K.it.g.g.bel) HB.it (by omega)
            obtain ⟨fb, fd, w7, run7, hfc, N7⟩ := N6.it.full HB.it hB2.it hnb
            have oA : (W5.alloc (.cells #[] 5)).cell? ⟨ob, 6, none⟩ = some (.slice sa B sc) := alloc_cell _ o6
            have K7 := Aside.mk (K.it.step N7.it.k (100 + 2 * n))
            have XB7 := Aside.mk (N7.it.xb own5 n)
            generalize give own5 W5.heap.size (100 + 2 * n) = own7 at K7 XB7
            clear N6 N7 K
            have hfcI : (B2 : Int) ≤ fd := by omega
            clear hfc
            have hBi : (B : Int) ≤ 1048576 := by omega
            have bF1 : (B : Int) < (B2 : Int) := by have := hB2.it; omega
            have bF2 : (B : Int) + 1 < (B2 : Int) := by have := hB2.it; omega
            have bT : ((B : Int) + 1).toNat = B + 1 := by omega
            have bG1 : (0 : Int) ≤ (B : Int) + 1 := by omega
            have bI : (B : Int) ≤ 9223372036854775806 := by omega
            have bN1 : B + 1 < B2 := by have := hB2.it; omega
            have bN2 : ¬ (B2 : Int) ≤ (B : Int) + 1 := by omega
            have bN3 : ((B + 1 : Nat) : Int) < (B2 : Int) := by omega
            have bW : IntKind.i64.wrap ((B : Int) + 1) = (B : Int) + 1 := by rw [IntKind.wrap_i64]; omega
            have bD : ((0 : Int) ≤ (B : Int) + 1 ∧ (B : Int) + 1 < (B2 : Int)) = True := by simp only [eq_iff_iff, iff_true]; omega
            have hBc : (B : Int) ≤ fd := by omega
            go_upto_region 26 with fail
            clear run6 run7 oA o0 o1 o2 o3 o4 o5 o6 o7 u0
            obtain ⟨o0, o1, o2, o3, o4, o5, o6, o7⟩ := K7.it.op8 List.mem_cons_self
            have hn8 : Aside (w7.heap.size ≠ wb ∧ w7.heap.size ≠ wb + 1 ∧ w7.heap.size ≠ ob) := ⟨by have := K7.it.cw.1.lt; have := K7.it.cx.1.lt; have := (K7.it.x _ List.mem_cons_self).1.lt; simp only at this; omega⟩
            have K8 := Aside.mk (K7.it.box 37 [.int .u8 v, .int .u8 t, .int .u16 f, .int .u32 s, .int .u32 l6, .slice sa B sc])
            have XB8 := Aside.mk (XB7.it.sn (I := fun _ => False) (Sn.quiet ((Keeps.refl _ _).alloc (.cells #[.int .u8 v, .int .u8 t, .int .u16 f, .int .u32 s, .int .u32 l6, .slice sa B sc] 37)) 8) (fun x => x))
            clear K7 XB7
            go_upto_region 27 with fail
            clear o0 o1 o2 o3 o4 o5 o6 o7
            generalize give own7 w7.heap.size 8 = own8 at K8 XB8
            generalize (w7.alloc (.cells #[.int .u8 v, .int .u8 t, .int .u16 f, .int .u32 s, .int .u32 l6, .slice sa B sc] 37)) = W8 at K8 XB8 ⊢
            generalize w7.heap.size = f8 at K8 hn8 ⊢
            obtain ⟨_, _, _, _, _, f5, ff⟩ := K8.it.f6 List.mem_cons_self
            have K9 := Aside.mk (K8.it.setF (u := .slice (some ⟨fb, 0, none⟩) B fd) hn8.it)
            have XB9 := Aside.mk (XB8.it.sn (box_sn (c0 := .slice (some ⟨fb, 0, none⟩) B fd) (i := 5) (K8.it.x _ List.mem_cons_self)) (by omega))
            clear K8 XB8
            go_upto_region 28 with fail
            clear f5 ff
            generalize (W8.setCell ⟨f8, 5, none⟩ (.slice (some ⟨fb, 0, none⟩) B fd)) = W9 at K9 XB9 ⊢
            obtain ⟨u0, _⟩ := K9.it.cellsW
            obtain ⟨_, o1, o2, o3, o4, o5, o6, _⟩ := K9.it.op8 (List.mem_cons_of_mem _ List.mem_cons_self)
            obtain ⟨e9, he9⟩ : ∃ e9, Aside (bE t l6 B = e9) := ⟨_, ⟨rfl⟩⟩
            have DP := Aside.mk (oj_refPut (v := v) (t := t) (f := f) (s := s) (l := l6) K9.it (HRD.it.later K9.it.g.g.bel) (by rw [HB.it]; exact hnb) HH.it.2.2.1.1 HH.it.2.2.1.2 HH.it.2.2.2.1.1 HH.it.2.2.2.1.2 HH.it.2.2.2.2.1 HH.it.2.2.2.2.2 (by have := K9.it.bp.len_le; have := HJ.it; omega))
            rw [HB.it, he9.it] at DP
            go_upto_region 29 with (first
              | (go_at_call 9; refine DP.it.mono ?_; clear DP u0 o1 o2 o3 o4 o5 o6; rintro e w10 ⟨na, nl, nc, own10, rfl, X10⟩)
              | fail)
            obtain ⟨x1, rfl, x3⟩ := X10.it
            have K11 := Aside.mk (x1.box 28 [.slice na nl nc])
            have XB11 := Aside.mk ((XB9.it.sn (I := fun _ => False) (Sn.quiet x3 13) (fun x => x)).sn (I := fun _ => False) (Sn.quiet ((Keeps.refl _ _).alloc (.cells #[.slice na nl nc] 28)) 8) (fun x => x))
            clear x1 x3 X10 K9 XB9
            generalize give (give own8 W9.heap.size 13) w10.heap.size 8 = own11 at K11 XB11
            generalize (w10.alloc (.cells #[.slice na nl nc] 28)) = W11 at K11 XB11 ⊢
            generalize w10.heap.size = nb at K11 ⊢
            have Kd := Aside.mk (And.intro (K11.it.quiet (Keeps.refl _ _).drew) (XB11.it.sn (I := fun _ => False) (Sn.same (Keeps.refl _ W11).drew) (fun x => x)))
            clear K11 XB11
            obtain ⟨S, hS⟩ : ∃ S, Aside (strOf ns = S) := ⟨_, ⟨rfl⟩⟩
            have PC := Aside.mk (oj_put9 (v := v) (t := t) (f := f) (s := s) (l6 := l6) Kd (full_take Kd.it.2 HB.it) (by rw [HB.it]; exact hnb) HH.it (by have := HJ.it; omega))
            rw [HB.it, he9.it] at PC
            have eC : ((e9 : Int) != e9) = false := by simp
            obtain ⟨rn, hrn⟩ : ∃ rn, Aside (putL rs v t f s l6 ns = rn) := ⟨_, ⟨rfl⟩⟩
            rw [hrn.it] at PC Kd
            go_cut [155] (fun yv wx => yv = .bool false ∧ ∃ own', Aside (Oj A w own' wx p rn (j * 1048588 + 1048588) (.slice na nl nc) rn (.slice fa fl fc) wb q ss2 ((j + 1) * 1048588) (.slice xa2 xl2 xc2) (.slice xa2 xl2 xc2) (wb + 1) (.slice la n lc) vs (.slice ma n mc) us Ls Ls [(nb, 28, [.slice na nl nc]), (f8, 37, [.int .u8 v, .int .u8 t, .int .u16 f, .int .u32 s, .int .u32 l6, .slice (some ⟨fb, 0, none⟩) B fd]), (ob, 39, [.int .i64 1, .int .u8 v, .int .u8 t, .int .u16 f, .int .u32 s, .int .u32 l6, .slice sa B sc, .int .i64 nn])] ∧ XB own' wx n (.slice (some ⟨fb, 0, none⟩) B2 fd) (ns ++ [170, 187])))
            case first =>
              go_region_held_law (fun w' => (w'.cell? ⟨f8, 0, none⟩ = some (.int .u8 v) ∧ w'.cell? ⟨f8, 1, none⟩ = some (.int .u8 t) ∧ w'.cell? ⟨f8, 2, none⟩ = some (.int .u16 f) ∧ w'.cell? ⟨f8, 3, none⟩ = some (.int .u32 s) ∧ w'.cell? ⟨f8, 4, none⟩ = some (.int .u32 l6) ∧ w'.cell? ⟨f8, 5, none⟩ = some (.slice (some ⟨fb, 0, none⟩) B fd)) ∧ w'.cell? ⟨ob, 6, none⟩ = some (.slice sa B sc) ∧ (convert 35 9 (.slice (some ⟨fb, 0, none⟩) B fd)).run Tryd.prog w' = .ok (.string S) w' ∧ (convert 35 9 (.slice sa B sc)).run Tryd.prog w' = .ok (.string S) w' ∧ w'.cell? ⟨fb, B, none⟩ = some (.int .u8 170) ∧ w'.cell? ⟨fb, B + 1, none⟩ = some (.int .u8 187)) (with_reducible exact Oj.s29 (by with_reducible assumption) HB HRD hS) (first
                | (go_at_call 10; with_reducible refine (code_of P12.it.1.g.sents C12.it).mono ?_; rintro e w13 ⟨rfl, hw13⟩; subst hw13)
                | (go_at_call 11; with_reducible refine PC.it.mono ?_; rintro e w12 ⟨ev, own12, rfl, C12, P12⟩)
                | fail)
              all_goals go_wp2_with fail
              all_goals go_meet
              all_goals exact ⟨rfl, own12, P12⟩
            case rest =>
            obtain ⟨rfl, own12, P12⟩ := hcut
            clear PC Kd eC
            generalize wc = W12 at P12 ⊢
            obtain ⟨m0, _⟩ := P12.it.1.n1 List.mem_cons_self
            obtain ⟨u0, uf⟩ := P12.it.1.cellsW
            have J13 := Aside.mk P12.it.1.writeW
            have XB13 := Aside.mk (P12.it.2.sn (box_sn (c0 := .slice na nl nc) (i := 0) P12.it.1.cw) (by omega))
            clear P12
            have hB2I : (B2 : Int) ≤ 1048578 := by have := hB2.it; omega
            have hQ0 : Aside ((ns ++ [170, 187]).length = B2) := ⟨by rw [List.length_append, HB.it, hB2.it]; rfl⟩
            go_upto_region 32 with fail
            clear m0 u0 uf
            generalize (W12.setCell ⟨wb, 0, none⟩ (.slice na nl nc)) = W13 at J13 XB13 ⊢
            have L0 : Aside (Oj A w own12 W13 p rn (j * 1048588 + 1048588) (.slice na nl nc) rn (.slice na nl nc) wb q ss2 ((j + 1) * 1048588) (.slice xa2 xl2 xc2) (.slice xa2 xl2 xc2) (wb + 1) (.slice la n lc) vs (.slice ma n mc) us Ls Ls [] ∧ XB own12 W13 n (.slice (some ⟨fb, 0, none⟩) B2 fd) (partR 92 0 (ns ++ [170, 187]))) := ⟨J13.it, by rw [show partR 92 0 (ns ++ [170, 187]) = ns ++ [170, 187] from by simp [partR]]; exact XB13.it⟩
            clear J13 XB13
            go_upto_region 33 with fail
            go_loopw [159] (fun iv wr => ∃ (i : Nat) (own' : Nat → Nat), iv = .int .i64 i ∧ i ≤ B2 ∧ Aside (Oj A w own' wr p rn (j * 1048588 + 1048588) (.slice na nl nc) rn (.slice na nl nc) wb q ss2 ((j + 1) * 1048588) (.slice xa2 xl2 xc2) (.slice xa2 xl2 xc2) (wb + 1) (.slice la n lc) vs (.slice ma n mc) us Ls Ls [] ∧ XB own' wr n (.slice (some ⟨fb, 0, none⟩) B2 fd) (partR 92 i (ns ++ [170, 187])))) (fun iv _ => B2 - natA iv)
            case atStart => exact ⟨0, own12, rfl, Nat.zero_le _, L0⟩
            case round =>
              clear L0
              obtain ⟨i, own14, rfl, hi, P14⟩ := hrel
              by_cases hlt : i < B2
              · have hlt' : (i : Int) < B2 := by omega
                have pl : (partR 92 i (ns ++ [170, 187])).length = B2 := by rw [partR_len (by rw [hQ0.it]; exact hi)]; exact hQ0.it
                obtain ⟨b', c', v0, ee, fz, ce, X2, S2⟩ := P14.it.2.put (i := i) (by rw [pl]; exact hlt) 92
                rw [pl] at ee
                injection ee with ee1 ee2 ee3
                injection ee1 with ee1
                injection ee1 with ee1
                subst ee1 ee3
                clear ee2
                rw [partR_step (by rw [hQ0.it]; exact hlt)] at X2
                have P15 := Aside.mk (And.intro (P14.it.1.sn S2 (fun k hk => by omega) (fun r hr => by have := HBD.it.fn; omega)) X2)
                clear X2 S2 pl P14
                go_wp2_with fail
                go_roundw
                case rel => exact ⟨i + 1, own14, by go_num, by omega, P15⟩
                case measure => simp [natA]; omega
              · have hlt' : ¬ (i : Int) < B2 := by omega
                obtain ⟨Q, hQ, J14⟩ : ∃ Q : List Int, Aside (Q.length = B2) ∧ Aside (Oj A w own14 wr p rn (j * 1048588 + 1048588) (.slice na nl nc) rn (.slice na nl nc) wb q ss2 ((j + 1) * 1048588) (.slice xa2 xl2 xc2) (.slice xa2 xl2 xc2) (wb + 1) (.slice la n lc) vs (.slice ma n mc) us Ls Ls [] ∧ XB own14 wr n (.slice (some ⟨fb, 0, none⟩) B2 fd) Q) := ⟨_, ⟨by rw [partR_len (by rw [hQ0.it]; exact hi)]; exact hQ0.it⟩, P14⟩
                clear P14
                obtain ⟨a15, c15, w15, own15, run15, J15⟩ := J14.it.1.pushL (v := .slice (some ⟨fb, 0, none⟩) B2 fd) (l := Q) (by rw [HBD.it.fn]; exact J14.it.2) (by rw [HBD.it.fn]; exact hn20.it)
                rw [HBD.it.fn] at run15 J15
                clear J14
                go_upto_region 38 with fail
                clear run15
                obtain ⟨da, dcc, w16, run16, X16⟩ := copyRun J15.it.2.rd hQ.it (by have := hB2.it; omega)
                have J16 := Aside.mk (J15.it.1.step X16.it.k 7)
                have R16 := Aside.mk (X16.it.rdO own15 7)
                obtain ⟨a17, c17, w17, own17, run17, J17⟩ := J16.it.pushM R16.it (by rw [HBD.it.fn]; exact hn20.it)
                rw [HBD.it.fn] at run17 J17
                clear J15 X16 J16 R16
                go_wp2_with fail
                go_roundw
                case rel => exact ⟨j + 1, n + 1, na, nl, nc, rn, xa2, xl2, xc2, ss2, a15, c15, _, a17, c17, _, Ls ++ [Q], own17, rfl, rfl, by go_num, jc.it, ⟨HBD.it.push (by rw [hQ.it]; have := hB2.it; omega)⟩, ⟨J17.it.more (by rw [Nat.succ_mul]; exact Nat.le_refl _) (Nat.le_refl _)⟩⟩
                case measure => have := jc.it; simp only [natA]; omega
        · have ek : (kd != 1) = true := by simpa using hk
          clear hk
          as_aux_lemma =>
            have FB := Aside.mk (show rs.flatten.length ≤ 4398046511103 ∧ rs.length ≤ 4398046511103 ∧ j * 1048588 ≤ 4398046511103 from by have := K.it.bp.flat_le; have := K.it.bp.len_le; have := HJ.it; omega)
            have DT := Aside.mk (oj_refTake K.it nn FB.it.1 FB.it.2.1)
            obtain ⟨T, hT⟩ : ∃ T, rs.flatten.take nn.toNat = T := ⟨_, rfl⟩
            have hTl : Aside (T.length ≤ 4398046511103) := ⟨by rw [← hT, List.length_take]; have := FB.it.1; omega⟩
            obtain ⟨S, hS⟩ : ∃ S, Aside (strOf T = S) := ⟨_, ⟨rfl⟩⟩
            have HT := Aside.mk hT
            rw [hT] at DT
            clear hT
            go_upto_region 18 with (first
              | (go_at_call 7; refine DT.it.mono ?_; clear DT u0 o0 o1 o2 o3 o4 o5 o6 o7; rintro e w6 ⟨na, nl, nc, ga, gl, gc, own6, rfl, X6⟩)
              | fail)
            have K6 := Aside.mk (X6.it.1.box 28 [.slice na nl nc])
            have D6 := Aside.mk (X6.it.2.sn (I := fun _ => False) (Sn.quiet ((Keeps.refl _ _).alloc (.cells #[.slice na nl nc] 28)) 8) (fun x => x))
            generalize give own6 w6.heap.size 8 = own7 at K6 D6
            generalize (w6.alloc (.cells #[.slice na nl nc] 28)) = W6 at K6 D6 ⊢
            generalize w6.heap.size = nb at K6 ⊢
            clear K X6
            obtain ⟨_, _, _, _, _, _, _, o7⟩ := K6.it.op8 (List.mem_cons_of_mem _ List.mem_cons_self)
            have MV := Aside.mk (oj_take K6.it nn n FB.it.2.2)
            rw [HT.it] at MV
            go_upto_region 19 with (first
              | (go_at_call 8; refine MV.it.mono ?_; clear MV o7; rintro e w7 ⟨ra, rl, rc, own8, rfl, X7⟩)
              | fail)
            obtain ⟨x1, x2, x3⟩ := X7.it
            have K7 := Aside.mk x1
            have XB7 := Aside.mk x2
            have D7 := Aside.mk (D6.it.sn x3 (by omega))
            have sc1 := str_run XB7.it.rd hS
            have sc2 := str_run D7.it.1 hS
            clear x1 x2 x3 X7 K6 D6
            obtain ⟨m0, _⟩ := K7.it.n1 List.mem_cons_self
            obtain ⟨u0, uf⟩ := K7.it.cellsW
            have J8 := Aside.mk K7.it.writeW
            have XB8 := Aside.mk (XB7.it.sn (box_sn (c0 := .slice na nl nc) (i := 0) K7.it.cw) (by omega))
            clear K7 XB7 D7
            go_upto_region 22 with fail
            clear m0 u0 uf sc1 sc2
            generalize (w7.setCell ⟨wb, 0, none⟩ (.slice na nl nc)) = W8 at J8 XB8 ⊢
            obtain ⟨a9, c9, w9, own9, run9, J9⟩ := J8.it.pushL (v := .slice ra rl rc) (l := T) (by rw [HBD.it.fn]; exact XB8.it) (by rw [HBD.it.fn]; exact hn20.it)
            rw [HBD.it.fn] at run9 J9
            clear J8 XB8
            go_upto_region 23 with fail
            clear run9
            obtain ⟨tl, htl⟩ : ∃ tl, Aside (T.length = tl) := ⟨_, ⟨rfl⟩⟩
            obtain ⟨ca, cc, w10, run10, X10⟩ := copyRun J9.it.2.rd htl.it (by have := hTl.it; have := htl.it; omega)
            have J10 := Aside.mk (J9.it.1.step X10.it.k 7)
            have R10 := Aside.mk (X10.it.rdO own9 7)
            obtain ⟨a11, c11, w11, own11, run11, J11⟩ := J10.it.pushM R10.it (by rw [HBD.it.fn]; exact hn20.it)
            rw [HBD.it.fn] at run11 J11
            clear J9 X10 J10 R10
            go_wp2_with fail
            go_roundw
            case rel => exact ⟨j + 1, n + 1, na, nl, nc, leftN rs nn.toNat, xa2, xl2, xc2, ss2, a9, c9, _, a11, c11, _, Ls ++ [T], own11, rfl, rfl, by go_num, jc.it, ⟨HBD.it.push (by have := hTl.it; omega)⟩, ⟨J11.it.more HJ1.it (Nat.le_refl _)⟩⟩
            case measure => have := jc.it; simp only [natA]; omega
      · have h1' : ¬ (j : Int) < N := by omega
        have h1'' : (N : Int) ≤ j := by omega
        go_wp2_with fail
        go_roundw
        case rel => exact ⟨j + 1, n, fa, fl, fc, rs, xa2, xl2, xc2, ss2, la, lc, vs, ma, mc, us, Ls, own2, rfl, rfl, by go_num, jc.it, ⟨HBD.it.next⟩, ⟨P2.it.more HJ1.it (Nat.le_refl _)⟩⟩
        case measure => have := jc.it; simp only [natA]; omega
end Go.Proofs.YtfphoaphdfhhiaaDoor

