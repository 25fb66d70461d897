import Derived.Test.YtambdgcogldbgaaDoorTsB
import Derived.Test.YtambdgcogldbgaaDoorTxx
import Derived.Deep.CutBlock
import Derived.Test.YtambdgcogldbgaaDoorTrI
import Derived.Test.YtambdgcogldbgaaDoorTrQ
import Derived.Test.YtambdgcogldbgaaDoorTrZ
/-
  culvertlaw24: step's world
-/
namespace Go.Proofs.YtambdgcogldbgaaDoor
open Go.RowKit Go.Maps

variable {A : Nat → Addr} {w w' w0 W w1 w2 : World} {own own' : Nat → Nat} {v vn hv bw sl : Value} {U Un : Ds} {I : Nat → Prop} {k z : Int} {T T' p : Nat} {ms ns : List Int} {L L' : Hs}
abbrev Bx := List (Nat × TypeId × List Value)
/-- a history (1), the document's rows and its next ones (9), boxes (8), the bytes that a call gives (4) -/
structure Sw (o0 : Nat → Nat) (ws : World) (A : Nat → Addr) (w0 : World) (own : Nat → Nat) (W : World) (hv : Value) (T : Nat) (L : Hs) (v : Value) (U : Ds) (vn : Value) (Un : Ds) (X : Bx) (bw : Value) (ms : List Int) : Prop where
  g : OnG A w0 own W
  h : Ho own 1 W hv T L
  d : RdD own W v U
  n : RdD own W vn Un
  x : ∀ e ∈ X, CellsO own 8 W e.1 e.2.1 e.2.2
  b : RdO own 4 W bw ms
  f : Sn (fun x => x = 1) o0 ws own W
variable {X : Bx} {o0 : Nat → Nat} {ws : World}
theorem Sw.sn (h : Sw o0 ws A w0 own W hv T L v U vn Un X bw ms) (s : Sn I own W own' w') (h0 : ¬ I 0) (h1 : ¬ I 1) (h4 : ¬ I 4) (h8 : ¬ I 8) (h9 : ¬ I 9) (hf : Sn (fun x => x = 1) o0 ws own' w') : Sw o0 ws A w0 own' w' hv T L v U vn Un X bw ms := ⟨h.g.sn s h0, h.h.sn s h1, h.d.sn s h9, h.n.sn s h9, fun e he => (h.x e he).sn s h8, h.b.sn s h4, hf⟩
theorem Sw.quiet (h : Sw o0 ws A w0 own W hv T L v U vn Un X bw ms) (hk : Keeps Nowhere W w') : Sw o0 ws A w0 own w' hv T L v U vn Un X bw ms := h.sn (I := fun _ => False) (Sn.same hk) (fun x => x) (fun x => x) (fun x => x) (fun x => x) (fun x => x) (h.f.trans (Sn.same hk))
theorem Sw.step (h : Sw o0 ws A w0 own W hv T L v U vn Un X bw ms) (hk : Keeps Nowhere W w') (n : Nat) : Sw o0 ws A w0 (give own W.heap.size n) w' hv T L v U vn Un X bw ms := h.sn (I := fun _ => False) (Sn.quiet hk n) (fun x => x) (fun x => x) (fun x => x) (fun x => x) (fun x => x) (h.f.trans (Sn.quiet hk n))
theorem Sw.box (h : Sw o0 ws A w0 own W hv T L v U vn Un X bw ms) (t : TypeId) (cs : List Value) : Sw o0 ws A w0 (give own W.heap.size 8) (W.alloc (.cells cs.toArray t)) hv T L v U vn Un ((W.heap.size, t, cs) :: X) bw ms := by
  have k := h.step ((Keeps.refl _ _).alloc (.cells cs.toArray t)) 8
  refine { k with x := fun e he => ?_ }
  rcases List.mem_cons.1 he with rfl | he
  · exact ⟨Cells.new W t cs, give_new (Nat.le_refl _)⟩
  · exact k.x e he
theorem Sw.row (h : Sw o0 ws A w0 own W hv T L v U vn Un X bw ms) {v2 : Value} {ms2 : List Int} (hk : Keeps Nowhere W w') (ho : OwnB W.heap.size w' v2 ms2) : Sw o0 ws A w0 (give own W.heap.size 4) w' hv T L v U vn Un X v2 ms2 :=
  { h.step hk 4 with b := ⟨OwnB.rd ho, fun g hg => ⟨owns_lt ho g hg, give_new (owns_base ho g hg)⟩⟩ }
theorem Sw.grd (h : Sw o0 ws A w0 own W hv T L v U vn Un X bw ms) (hr : Rd w0 sl ns) : Rd W sl ns := hr.later h.g.g.bel
/-- the document's next rows -/
theorem Sw.next (h : Sw o0 ws A w0 own W hv T L v U vn Un X bw ms) {v2 : Value} {U2 : Ds} (hk : Keeps Nowhere W w') (hd : RdD (give own W.heap.size 9) w' v2 U2) : Sw o0 ws A w0 (give own W.heap.size 9) w' hv T L v U v2 U2 X bw ms := { h.step hk 9 with n := hd }
/-- the history moves -/
theorem Sw.move (h : Sw o0 ws A w0 own W hv T L v U vn Un X bw ms) (hh : Ho own' 1 w' hv T' L') (s : Sn (fun x => x = 1) own W own' w') : Sw o0 ws A w0 own' w' hv T' L' v U vn Un X bw ms := ⟨h.g.sn s (by decide), hh, h.d.sn s (by decide), h.n.sn s (by decide), fun e he => (h.x e he).sn s (by decide), h.b.sn s (by decide), h.f.trans s⟩
/-- a box is written -/
theorem Sw.put {nb : Nat} {t : TypeId} {cs : List Value} (h : Sw o0 ws A w0 own W hv T L v U vn Un ((nb, t, cs) :: X) bw ms) (hX : ∀ e ∈ X, e.1 ≠ nb) (hnb : ws.heap.size ≤ nb) (i : Nat) (x : Value) : Sw o0 ws A w0 own (W.setCell ⟨nb, i, none⟩ x) hv T L v U vn Un ((nb, t, cs.set i x) :: X) bw ms := by
  have hb := h.x _ List.mem_cons_self
  have s8 : Sn (fun k => k = 8) own W own (W.setCell ⟨nb, i, none⟩ x) := ⟨fun _ _ => rfl, (Keeps.refl _ _).setCell _ _ (fun _ => hb.2)⟩
  refine ⟨h.g.sn s8 (by decide), h.h.sn s8 (by decide), h.d.sn s8 (by decide), h.n.sn s8 (by decide), fun e he => ?_, h.b.sn s8 (by decide), ⟨h.f.agree, h.f.keeps.next (S' := fun k => k = nb) ((Keeps.refl _ _).setCell _ _ (fun _ => rfl)) (fun k e hlt => by omega)⟩⟩
  rcases List.mem_cons.1 he with rfl | he
  · exact ⟨hb.1.setCell i x, hb.2⟩
  · exact ⟨(h.x e (List.mem_cons_of_mem _ he)).1.setOther ⟨nb, i, none⟩ x (hX e he), (h.x e (List.mem_cons_of_mem _ he)).2⟩
/-- the four boxes of a step -/
abbrev bx4 (mb : Nat) (v vn vr : Value) (oc : List Value) : Bx := [(mb + 1 + 1 + 1, 28, [vn]), (mb + 1 + 1, 28, [vr]), (mb + 1, 31, oc), (mb, 28, [v])]
variable {mb : Nat} {vr : Value} {kd ky n : Int} {nx : Bool}
theorem Sw.start (g : OnG A w0 own w) (h : Ho own 1 w hv T L) (d : RdD own w v U) (oc : List Value) : Sw own w A w0 (give (give (give (give own w.heap.size 8) (w.heap.size + 1) 8) (w.heap.size + 1 + 1) 8) (w.heap.size + 1 + 1 + 1) 8) ((((w.alloc (.cells #[v] 28)).alloc (.cells oc.toArray 31)).alloc (.cells #[.slice none 0 0] 28)).alloc (.cells #[v] 28)) hv T L v U v U (bx4 w.heap.size v v (.slice none 0 0) oc) (.slice none 0 0) [] := by
  have s0 : Sw own w A w0 own w hv T L v U v U [] (.slice none 0 0) [] := ⟨g, h, d, d, fun e he => (by cases he), ⟨(RowB.nil own 0 _).rd, fun g hg => by simp [Value.ownBlock] at hg⟩, Sn.same (Keeps.refl _ _)⟩
  have s1 := s0.box 28 [v]
  have s2 := s1.box 31 oc
  rw [World.size_alloc] at s2
  have s3 := s2.box 28 [.slice none 0 0]
  rw [World.size_alloc, World.size_alloc] at s3
  have s4 := s3.box 28 [v]
  rw [World.size_alloc, World.size_alloc, World.size_alloc] at s4
  exact s4
theorem Sw.cells (h : Aside (Sw o0 ws A w0 own W hv T L v U vn Un (bx4 mb v vn vr [.int .i64 kd, .int .i64 ky, .int .i64 n, .bool nx, sl]) bw ms)) : W.cell? ⟨mb, 0, none⟩ = some v ∧ W.cell? ⟨mb + 1, 0, none⟩ = some (.int .i64 kd) ∧ W.cell? ⟨mb + 1, 1, none⟩ = some (.int .i64 ky) ∧ W.cell? ⟨mb + 1, 2, none⟩ = some (.int .i64 n) ∧ W.cell? ⟨mb + 1, 3, none⟩ = some (.bool nx) ∧ W.cell? ⟨mb + 1, 4, none⟩ = some sl := by
  have h1 := (h.it.x (mb, 28, [v]) (by simp [bx4])).1
  have h2 := (h.it.x (mb + 1, 31, [.int .i64 kd, .int .i64 ky, .int .i64 n, .bool nx, sl]) (by simp [bx4])).1
  exact ⟨by rw [h1.cell]; rfl, by rw [h2.cell]; rfl, by rw [h2.cell]; rfl, by rw [h2.cell]; rfl, by rw [h2.cell]; rfl, by rw [h2.cell]; rfl⟩
theorem Sw.cells2 {oc : List Value} (h : Sw o0 ws A w0 own W hv T L v U vn Un (bx4 mb v vn vr oc) bw ms) : W.cell? ⟨mb + 1 + 1 + 1, 0, none⟩ = some vn ∧ W.cell? ⟨mb + 1 + 1, 0, none⟩ = some vr ∧ W.frozen? ⟨mb + 1 + 1 + 1, 0, none⟩ = false ∧ W.frozen? ⟨mb + 1 + 1, 0, none⟩ = false := by
  have h1 := (h.x (mb + 1 + 1 + 1, 28, [vn]) (by simp [bx4])).1
  have h2 := (h.x (mb + 1 + 1, 28, [vr]) (by simp [bx4])).1
  exact ⟨by rw [h1.cell]; rfl, by rw [h2.cell]; rfl, h1.frozen 0, h2.frozen 0⟩
/-- the next rows are kept in their box -/
theorem Sw.keep {v2 : Value} {oc : List Value} (hm : ws.heap.size ≤ mb) (h : Sw o0 ws A w0 own W hv T L v U v2 Un (bx4 mb v vn vr oc) bw ms) : Sw o0 ws A w0 own (W.setCell ⟨mb + 1 + 1 + 1, 0, none⟩ v2) hv T L v U v2 Un (bx4 mb v v2 vr oc) bw ms := by
  have := h.put (fun e he => by simp only [List.mem_cons, List.not_mem_nil, or_false] at he; rcases he with rfl | rfl | rfl <;> simp <;> omega) (by omega) 0 v2
  exact this
/-- what a step leaves -/
def SEnds (A : Nat → Addr) (w0 : World) (hv : Value) (own : Nat → Nat) (w : World) (T : Nat) (L : Hs) (e : Ending) (w' : World) : Prop := ∃ q l c U' T' L' own', e = .returned (.tuple #[.agg #[.slice q l c], .bool true]) ∧ Aside (OnG A w0 own' w' ∧ Ho own' 1 w' hv T' L' ∧ RdD own' w' (.slice q l c) U' ∧ mdl U' = L' ∧ T' ≤ T + 1048576 ∧ L'.length ≤ L.length + 1 ∧ Sn (fun x => x = 1) own w own' w')
end Go.Proofs.YtambdgcogldbgaaDoor

/-
  culvertlaw24.step
-/
namespace Go.Proofs.YtambdgcogldbgaaDoor
open Go.RowKit Go.Maps

variable {A : Nat → Addr} {w w' w0 W w1 w2 : World} {own own' : Nat → Nat} {v vn hv bw sl : Value} {U Un : Ds} {I : Nat → Prop} {k z : Int} {T T' p : Nat} {ms ns : List Int} {L L' : Hs}
variable {X : Bx} {o0 : Nat → Nat} {ws : World} {mb : Nat} {vr : Value} {kd ky n : Int} {nx : Bool} {k' : Nat}

/-- a row of bytes that is new since w -/
structure Ny (w W : World) (v : Value) (ns : List Int) : Prop where
  row : OwnB w.heap.size W v ns
  k : Keeps Nowhere w W
variable {x : Value}
theorem keeps_from {a b c : World} (h : Keeps Nowhere a b) (h' : Below a.heap.size b c) : Keeps Nowhere a c := Keeps.ofBelow (h.bel.trans h')
/-- append(v, x...) of a row that is new since w -/
theorem appRun {ms : List Int} {m : Nat} (h : OwnB w.heap.size W v ns) (hk : Keeps Nowhere w W) (hx : Rd W x ms) (hb : ns.length + ms.length ≤ 140737488355328) (hm : (ns ++ ms).length = m) : ∃ (a : Option Addr) (c : Nat) (w' : World), (∀ ty, (Builtin.append_ #[29, 29] ty #[v, x]).run Tryd.prog W = .ok (.slice a m c) w') ∧ Aside (Ny w w' (.slice a m c) (ns ++ ms)) := by
  obtain ⟨i, hi, hz0, hz1, hz2⟩ := info_parts u8info
  have hown' : W.ownsRow w.heap.size 5 1 v (bv ns).length (bv ns) := by rw [bv_length]; exact h
  obtain ⟨v', w', run, o', g'⟩ := run_appendK (P := Tryd.prog) W w.heap.size 29 5 i _ 1 Tryd.underlying29 hi hz0 hz1 hz2 rfl v (bv ns) hown' x (bv ms) hx.1 hx.2 (bv_one ms) (by rw [bv_length, bv_length]; omega) (by rw [bv_length, bv_length]; unfold maxLen; omega) hk.size
  have o2 : OwnB w.heap.size w' v' (ns ++ ms) := by
    rw [← bv_append, bv_length] at o'
    exact o'
  obtain ⟨a, c, e⟩ := OwnB.shape o2
  rw [hm] at e
  subst e
  exact ⟨a, c, w', run, ⟨o2, hk.next (grown_keeps g') (fun b hb hlt => by have := owns_base h b hb; omega)⟩⟩
/-- append([]byte(nil-less), x...) -/
theorem copyRun {N : Nat} (hx : Rd W x ns) (hN : ns.length = N) (hb : N ≤ 140737488355328) : ∃ (a : Option Addr) (c : Nat) (w' : World), (∀ ty, (Builtin.append_ #[29, 29] ty #[.slice (some ⟨W.heap.size, 0, none⟩) 0 0, x]).run Tryd.prog (W.alloc (.cells #[] 5)) = .ok (.slice a N c) w') ∧ Aside (Ny W w' (.slice a N c) ns) := by
  have K : Keeps Nowhere W (W.alloc (.cells #[] 5)) := (Keeps.refl _ _).alloc _
  exact appRun (ns := []) (owns_empty W 5) K (hx.later K.bel) (by simp; omega) (by simpa using hN)
attribute [-go_sem] Builtin.append_
theorem Ho.tr (h : Ho own k' w (ptr p) T L) : TrO own k' w p T L := by
  rcases h with ⟨p', e, h⟩ | ⟨e, _⟩
  · have : p = p' := by simpa [ptr] using e
    subst this; exact h
  · simp [ptr] at e
theorem Sw.fz {vo : Value} {oc : List Value} (h : Sw o0 ws A w0 own W hv T L v U vn Un (bx4 mb v vo vr oc) bw ms) : W.frozen? ⟨mb + 1 + 1 + 1, 0, none⟩ = false ∧ W.cell? ⟨mb + 1 + 1 + 1, 0, none⟩ = some vo := by
  have h1 := (h.x (mb + 1 + 1 + 1, 28, [vo]) (by simp [bx4])).1
  exact ⟨h1.frozen 0, by rw [h1.cell]; rfl⟩
theorem Sw.cells1 {oc : List Value} (h : Aside (Sw o0 ws A w0 own W hv T L v U vn Un (bx4 mb v vn vr oc) bw ms)) : W.cell? ⟨mb + 1 + 1 + 1, 0, none⟩ = some vn := (Sw.cells2 h.it).1
theorem Sw.cellsS {oc : List Value} {x : Value} (h : Aside (Sw o0 ws A w0 own W hv T L v U vn Un (bx4 mb v vn vr oc) bw ms)) : (W.setCell ⟨mb + 1 + 1, 0, none⟩ x).cell? ⟨mb + 1 + 1 + 1, 0, none⟩ = some vn := by
  have h1 := (h.it.x (mb + 1 + 1 + 1, 28, [vn]) (by simp [bx4])).1
  rw [(h1.setOther ⟨mb + 1 + 1, 0, none⟩ x (by simp)).cell]; rfl
theorem Sw.fin {vo : Value} {oc : List Value} (hm : ws.heap.size ≤ mb) (h : Sw o0 ws A w0 own W hv T L v U vn Un (bx4 mb v vo vr oc) bw ms) (x : Value) : (W.setCell ⟨mb + 1 + 1, 0, none⟩ x).cell? ⟨mb + 1 + 1, 0, none⟩ = some x ∧ Aside (OnG A w0 own (W.setCell ⟨mb + 1 + 1, 0, none⟩ x) ∧ Ho own 1 (W.setCell ⟨mb + 1 + 1, 0, none⟩ x) hv T L ∧ RdD own (W.setCell ⟨mb + 1 + 1, 0, none⟩ x) vn Un ∧ Sn (fun x => x = 1) o0 ws own (W.setCell ⟨mb + 1 + 1, 0, none⟩ x)) := by
  have hb := h.x (mb + 1 + 1, 28, [vr]) (by simp [bx4])
  have s8 : Sn (fun k => k = 8) own W own (W.setCell ⟨mb + 1 + 1, 0, none⟩ x) := ⟨fun _ _ => rfl, (Keeps.refl _ _).setCell _ _ (fun _ => hb.2)⟩
  refine ⟨by rw [(hb.1.setCell 0 x).cell]; rfl, ⟨h.g.sn s8 (by decide), h.h.sn s8 (by decide), h.n.sn s8 (by decide), ⟨h.f.agree, h.f.keeps.next (S' := fun k => k = mb + 1 + 1) ((Keeps.refl _ _).setCell _ _ (fun _ => rfl)) (fun k e hlt => by omega)⟩⟩⟩
theorem sw_rest (h : Aside (Sw o0 ws A w0 own W hv T L v U vn Un X bw ms)) (hm : mdl U = L) (hl : U.length ≤ 1073741824) (hT : T ≤ 70368744177664) (z : Int) :
    Calls Tryd.prog 7 #[.agg #[v], .int .i64 z] W fun e w' => ∃ q l c own', e = .returned (.slice q l c) ∧ Aside (Sw o0 ws A w0 own' w' hv T L v U vn Un X (.slice q l c) (got L z).rest) := by
  refine (dRest h.it.d (by omega) (by rw [hm]; exact h.it.h.ok) hT z).mono ?_
  rintro e w' ⟨q, c, rfl, R, K⟩
  rw [hm] at R ⊢
  exact ⟨q, _, c, _, rfl, ⟨h.it.row K.it R.it⟩⟩
theorem sw_bytes {rs : List Int} {rv : Value} (h : Aside (Sw o0 ws A w0 own W hv T L v U vn Un X rv rs)) (hr : Rd w0 sl ns) (b1 : ns.length ≤ 70368744177664) (b2 : rs.length ≤ 70368744177664) :
    Calls Tryd.prog 6 #[.agg #[.int .i64 kd, .int .i64 ky, .int .i64 n, .bool nx, sl], rv] W fun e w' => ∃ q l c own', e = .returned (.slice q l c) ∧ Aside (Sw o0 ws A w0 own' w' hv T L v U vn Un X (.slice q l c) (givB nx n ns rs)) := by
  refine (bytes_at (h.it.grd hr) h.it.b.1 b1 b2).mono ?_
  rintro e w' ⟨q, c, rfl, R, K⟩
  exact ⟨q, _, c, _, rfl, ⟨h.it.row K.it R.it⟩⟩
theorem sw_code {ev : Value} {cd : Int} (h : Aside (Sw o0 ws A w0 own W hv T L v U vn Un X bw ms)) (hc : Hid (Coded A ev cd)) : Calls Tryd.prog 19 #[ev] W fun e w' => e = .returned (.int .i64 cd) ∧ Aside (Sw o0 ws A w0 own w' hv T L v U vn Un X bw ms) := by
  refine (code_of h.it.g.sents hc.out).mono ?_
  rintro e w' ⟨rfl, rfl⟩
  exact ⟨rfl, h⟩

set_option maxRecDepth 20000 in
set_option maxHeartbeats 4000000 in
theorem step24_some (own : Nat → Nat) (w : World) (g : OnG A w0 own w) (h : TrO own 1 w p T L) (d : RdD own w v U) (kd : Int) (hm : mdl U = L) (hl : U.length ≤ 1073741823) (hz : Zw z) (hr : Rd w0 sl ns) (hby : ∀ n ∈ ns, 0 ≤ n ∧ n ≤ 255) (hns : ns.length ≤ 1048576) (hT : T + 1048576 ≤ 70368744177664) :
    Calls Tryd.prog 8 #[ptr p, .agg #[v], .bool false, .agg #[.int .i64 kd, .int .i64 z, .int .i64 n, .bool nx, sl]] w fun e w' => SEnds A w0 (ptr p) own w T L e w' := by
  have S0 := Aside.mk (Sw.start g (.inl ⟨p, rfl, h⟩ : Ho own 1 w (ptr p) T L) d [.int .i64 kd, .int .i64 z, .int .i64 n, .bool nx, sl])
  have ok := Aside.mk h.ok
  obtain ⟨a, c0, rfl, _⟩ := d.s
  obtain ⟨sq, sc, rfl⟩ := hr.shape
  obtain ⟨un, hun⟩ : ∃ un, U.length = un := ⟨_, rfl⟩
  obtain ⟨nn, hnn⟩ : ∃ nn, ns.length = nn := ⟨_, rfl⟩
  have HH := Aside.mk (And.intro hm (And.intro hl (And.intro hz (And.intro hr (And.intro hby (And.intro hns hT))))))
  have HD : Aside (U.length ≤ 1073741824 ∧ T ≤ 70368744177664) := ⟨by omega⟩
  clear hm hl hz hr hby hns hT g h d
  rw [hun] at S0 ⊢
  rw [hnn] at S0 ⊢
  have HR : Aside (Rd w0 (.slice sq nn sc) ns ∧ ns.length ≤ 70368744177664 ∧ (got L z).rest.length ≤ 70368744177664) := ⟨by
    have h1 := HH.it.2.2.2.1
    rw [hnn] at h1
    refine ⟨h1, by have := HH.it.2.2.2.2.2.1; omega, ?_⟩
    rw [Rc.rest_len]; have := (ok.it.got z).len; have := HD.it.2; omega⟩
  have HNN := Aside.mk hnn
  clear hun hnn
  generalize hmb : w.heap.size = mb at S0
  generalize hW1 : (((w.alloc (.cells #[.slice a un c0] 28)).alloc (.cells #[.int .i64 kd, .int .i64 z, .int .i64 n, .bool nx, .slice sq nn sc] 31)).alloc (.cells #[.slice none 0 0] 28)).alloc (.cells #[.slice a un c0] 28) = W1 at S0
  generalize (give (give (give (give own mb 8) (mb + 1) 8) (mb + 1 + 1) 8) (mb + 1 + 1 + 1) 8) = own1 at S0
  have hM : Aside (w.heap.size ≤ mb) := ⟨by omega⟩
  obtain ⟨k0, k1, k2, k3, k4, k5⟩ := Sw.cells S0
  go_enter Tryd.func8, Tryd.ntmps8
  go_upto_region 2 with fail
  have S1 := Aside.mk (S0.it.quiet (Keeps.refl _ _).drew)
  clear S0 hW1 hmb
  go_cut [12] (fun bv wx => ∃ q l c own', bv = .slice q l c ∧ Aside (Sw own w A w0 own' wx (ptr p) T L (.slice a un c0) U (.slice a un c0) U (bx4 mb (.slice a un c0) (.slice a un c0) (.slice none 0 0) [.int .i64 kd, .int .i64 z, .int .i64 n, .bool nx, .slice sq nn sc]) (.slice q l c) (givB nx n ns (got L z).rest)))
  case first =>
    clear k0 k1 k2 k3 k4 k5
    go_region_held3 (fun W => W.cell? ⟨mb, 0, none⟩ = some (.slice a un c0) ∧ W.cell? ⟨mb + 1, 0, none⟩ = some (.int .i64 kd) ∧ W.cell? ⟨mb + 1, 1, none⟩ = some (.int .i64 z) ∧ W.cell? ⟨mb + 1, 2, none⟩ = some (.int .i64 n) ∧ W.cell? ⟨mb + 1, 3, none⟩ = some (.bool nx) ∧ W.cell? ⟨mb + 1, 4, none⟩ = some (.slice sq nn sc)) (with_reducible exact Sw.cells (by with_reducible assumption)) (first
      | (go_at_call 6; with_reducible refine (sw_bytes S5 HR.it.1 HR.it.2.1 HR.it.2.2).mono ?_; rintro e w6 ⟨q6, l6, c6, own6, rfl, S6⟩)
      | (go_at_call 7; with_reducible refine (sw_rest S1 HH.it.1 HD.it.1 HD.it.2 z).mono ?_; rintro e w5 ⟨q5, l5, c5, own5, rfl, S5⟩)
      | fail)
    all_goals go_wp2_with fail
    all_goals go_meet
    all_goals exact ⟨q6, l6, c6, own6, rfl, S6⟩
  case rest =>
    obtain ⟨q6, l6, c6, own6, rfl, S6⟩ := hcut
    clear S1 k0 k1 k2 k3 k4 k5
    obtain ⟨k0, k1, k2, k3, k4, k5⟩ := Sw.cells S6
    obtain ⟨ms, hms⟩ : ∃ ms, givB nx n ns (got L z).rest = ms := ⟨_, rfl⟩
    have HBM : Aside (AreBytes ms) := ⟨by
      rw [← hms]
      unfold givB
      split
      · exact fun y hy => (ok.it.got z).byte y (List.mem_of_mem_drop (List.mem_of_mem_take hy))
      · exact HH.it.2.2.2.2.1⟩
    rw [hms] at S6
    clear hms
    go_upto_block 0 with fail
    go_cut [11, 13] (fun ev rv wx => ∃ cd q l c Un L' T' own', ev = .int .i64 cd ∧ Hid (Coded A rv cd) ∧ Aside (Sw own w A w0 own' wx (ptr p) T' L' (.slice a un c0) U (.slice q l c) Un (bx4 mb (.slice a un c0) (.slice q l c) (.slice none 0 0) [.int .i64 kd, .int .i64 z, .int .i64 n, .bool nx, .slice sq nn sc]) (.slice q6 l6 c6) ms) ∧ Aside (mdl Un = L' ∧ T' ≤ T + 1048576 ∧ L'.length ≤ L.length + 1))
    case first =>
      have HN : Aside (L.length + 1 ≤ 2147483648) := ⟨by rw [← HH.it.1, mdl_len]; have := HD.it.1; omega⟩
      have HO : Aside (TOk T (mdl U)) := ⟨by rw [HH.it.1]; exact ok.it⟩
      by_cases q0 : kd = 0
      · subst q0
        as_aux_lemma =>
          have DR := Aside.mk (dWrote S6.it.d HD.it.1 HO.it z (S6.it.grd HR.it.1) (by have := HH.it.2.2.2.2.2; omega))
          go_upto_region 11 with (first
            | (go_at_call 9; refine DR.it.mono ?_; clear DR; rintro e w7 ⟨q7, l7, c7, U7, rfl, D7, K7⟩; have S7 := Aside.mk (S6.it.next K7.it D7.it.1); obtain ⟨g1, g2⟩ := Sw.fz S7.it)
            | fail)
          have S8 := Aside.mk (Sw.keep hM.it S7.it)
          clear k0 k1 k2 k3 k4 k5 g1 g2 S6 S7 K7
          generalize w7.setCell ⟨mb + 1 + 1 + 1, 0, none⟩ (.slice q7 l7 c7) = w8 at S8 ⊢
          have Sd := Aside.mk (S8.it.quiet (Keeps.refl _ _).drew)
          obtain ⟨ca, cc, w9, run9, N9⟩ := copyRun (Sd.it.grd HR.it.1) HNN.it (by have := HR.it.2.1; rw [HNN.it] at this; omega)
          have Sa := Aside.mk (Sd.it.quiet ((Keeps.refl _ _).alloc (.cells #[] 5)))
          have Sc := Aside.mk (Sd.it.step N9.it.k 20)
          have PR := Aside.mk (wrote_at Sc.it.h.tr HH.it.2.2.1 Sc.it.g.sents (OwnB.rd N9.it.row) HH.it.2.2.2.2.1 (by have := HH.it.2.2.2.2.2; omega) HN.it)
          rw [show w8.drew.alloc (.cells #[] 5) = (w8.alloc (.cells #[] 5)).drew from rfl] at Sa run9
          rw [show w8.drew.heap.size = w8.heap.size from rfl] at run9
          clear N9 S8
          go_region_held3 (fun W => W.cell? ⟨mb, 0, none⟩ = some (.slice a un c0) ∧ W.cell? ⟨mb + 1, 0, none⟩ = some (.int .i64 0) ∧ W.cell? ⟨mb + 1, 1, none⟩ = some (.int .i64 z) ∧ W.cell? ⟨mb + 1, 2, none⟩ = some (.int .i64 n) ∧ W.cell? ⟨mb + 1, 3, none⟩ = some (.bool nx) ∧ W.cell? ⟨mb + 1, 4, none⟩ = some (.slice sq nn sc)) (with_reducible exact Sw.cells (by with_reducible assumption)) (first
            | (go_at_call 10; refine PR.it.mono ?_; rintro e w10 ⟨ev9, own9, rfl, C9, X9⟩; have S9 := Aside.mk (Sc.it.move (.inl ⟨p, rfl, X9.it.1⟩) X9.it.2))
            | fail)
          all_goals go_wp2_with fail
          all_goals go_meet
          all_goals exact ⟨_, q7, l7, c7, U7, _, T + ns.length, own9, rfl, by rw [HH.it.1]; exact C9, S9, ⟨by rw [D7.it.2, HH.it.1], by have := HH.it.2.2.2.2.2.1; omega, len_wrote ok.it z ns⟩⟩
      by_cases q1 : kd = 1
      · subst q1
        as_aux_lemma =>
          have DR := Aside.mk (dClosed S6.it.d HD.it.1 HO.it z)
          go_upto_region 15 with (first
            | (go_at_call 22; refine DR.it.mono ?_; clear DR; rintro e w7 ⟨q7, l7, c7, U7, rfl, D7, K7⟩; have S7 := Aside.mk (S6.it.next K7.it D7.it.1); obtain ⟨g1, g2⟩ := Sw.fz S7.it)
            | fail)
          have S8 := Aside.mk (Sw.keep hM.it S7.it)
          clear k0 k1 k2 k3 k4 k5 g1 g2 S6 S7 K7
          generalize w7.setCell ⟨mb + 1 + 1 + 1, 0, none⟩ (.slice q7 l7 c7) = w8 at S8 ⊢
          obtain ⟨k0, k1, k2, k3, k4, k5⟩ := Sw.cells S8
          have PR := Aside.mk (closed_at S8.it.h.tr HH.it.2.2.1 S8.it.g.sents HN.it)
          go_wp2_with (first
            | (go_at_call 23; refine PR.it.mono ?_; clear PR; rintro e w9 ⟨ev9, own9, rfl, C9, X9⟩)
            | fail)
          go_meet
          have S9 := Aside.mk (S8.it.move (.inl ⟨p, rfl, X9.it.1⟩) X9.it.2)
          exact ⟨_, q7, l7, c7, U7, _, T, own9, rfl, by rw [HH.it.1]; exact C9, S9, ⟨by rw [D7.it.2, HH.it.1], Nat.le_add_right _ _, len_closed ok.it z⟩⟩
      by_cases q2 : kd = 2
      · subst q2
        as_aux_lemma =>
          have DR := Aside.mk (dGave S6.it.d HD.it.1 HO.it z S6.it.b.1 HBM.it HD.it.2)
          go_upto_region 19 with (first
            | (go_at_call 11; refine DR.it.mono ?_; clear DR; rintro e w7 ⟨q7, l7, c7, U7, rfl, D7, K7⟩; have S7 := Aside.mk (S6.it.next K7.it D7.it.1); obtain ⟨g1, g2⟩ := Sw.fz S7.it)
            | fail)
          have S8 := Aside.mk (Sw.keep hM.it S7.it)
          clear k0 k1 k2 k3 k4 k5 g1 g2 S6 S7 K7
          generalize w7.setCell ⟨mb + 1 + 1 + 1, 0, none⟩ (.slice q7 l7 c7) = w8 at S8 ⊢
          obtain ⟨k0, k1, k2, k3, k4, k5⟩ := Sw.cells S8
          have PR := Aside.mk (gave_at S8.it.h.tr HH.it.2.2.1 S8.it.g.sents S8.it.b.1 HBM.it HD.it.2 HN.it)
          go_wp2_with (first
            | (go_at_call 12; refine PR.it.mono ?_; clear PR; rintro e w9 ⟨ev9, own9, rfl, C9, X9⟩)
            | fail)
          go_meet
          have S9 := Aside.mk (S8.it.move (.inl ⟨p, rfl, X9.it.1⟩) X9.it.2)
          exact ⟨_, q7, l7, c7, U7, _, T, own9, rfl, by rw [HH.it.1]; exact C9, S9, ⟨by rw [D7.it.2, HH.it.1], Nat.le_add_right _ _, len_gave ok.it z ms⟩⟩
      have p0 : (kd == 0) = false := beq_eq_false_iff_ne.2 q0
      have p1 : (kd == 1) = false := beq_eq_false_iff_ne.2 q1
      have p2 : (kd == 2) = false := beq_eq_false_iff_ne.2 q2
      clear q0 q1 q2
      as_aux_lemma =>
        have DR := Aside.mk (dEnded S6.it.d HD.it.1 HO.it z)
        go_upto_region 7 with (first
          | (go_at_call 24; refine DR.it.mono ?_; clear DR; rintro e w7 ⟨q7, l7, c7, U7, rfl, D7, K7⟩; have S7 := Aside.mk (S6.it.next K7.it D7.it.1); obtain ⟨g1, g2⟩ := Sw.fz S7.it)
          | fail)
        have S8 := Aside.mk (Sw.keep hM.it S7.it)
        clear k0 k1 k2 k3 k4 k5 g1 g2 S6 S7 K7
        generalize w7.setCell ⟨mb + 1 + 1 + 1, 0, none⟩ (.slice q7 l7 c7) = w8 at S8 ⊢
        obtain ⟨k0, k1, k2, k3, k4, k5⟩ := Sw.cells S8
        have PR := Aside.mk (ended_at S8.it.h.tr HH.it.2.2.1 S8.it.g.sents HN.it)
        go_wp2_with (first
          | (go_at_call 25; refine PR.it.mono ?_; clear PR; rintro e w9 ⟨ev9, own9, rfl, C9, X9⟩)
          | fail)
        go_meet
        have S9 := Aside.mk (S8.it.move (.inl ⟨p, rfl, X9.it.1⟩) X9.it.2)
        exact ⟨_, q7, l7, c7, U7, _, T, own9, rfl, by rw [HH.it.1]; exact C9, S9, ⟨by rw [D7.it.2, HH.it.1], Nat.le_add_right _ _, len_ended ok.it z⟩⟩
    case rest =>
      obtain ⟨cd, q9, l9, c9, Un, L9, T9, own9, rfl, C9, S9, HE⟩ := hcut
      have Sd := Aside.mk (S9.it.quiet (Keeps.refl _ _).drew)
      have e2 : (cd == cd) = true := by simp
      clear S6 S9 k0 k1 k2 k3 k4 k5
      go_upto_region 20 with fail
      go_region_held3 (fun W => W.cell? ⟨mb + 1 + 1 + 1, 0, none⟩ = some (.slice q9 l9 c9)) (first | with_reducible exact Sw.cells1 (by with_reducible assumption) | with_reducible exact Sw.cellsS (by with_reducible assumption)) (first
        | (go_at_call 19; with_reducible refine (sw_code Sd C9).mono ?_; rintro e w10 ⟨rfl, S10⟩; obtain ⟨_, r1, _, r2⟩ := Sw.cells2 S10.it)
        | fail)
      all_goals
        obtain ⟨y0, E⟩ := Sw.fin hM.it S10.it (.slice q9 l9 c9)
        generalize w10.setCell ⟨mb + 1 + 1, 0, none⟩ (.slice q9 l9 c9) = V at y0 E ⊢
        go_wp2
        refine bodyPost_ret (v := .tuple #[.agg #[.slice q9 l9 c9], .bool true]) (by simp [results, Tryd.f8, go_sem, y0]) rfl ?_
        exact ⟨q9, l9, c9, Un, T9, L9, own9, rfl, ⟨E.it.1, E.it.2.1, E.it.2.2.1, HE.it.1, HE.it.2.1, HE.it.2.2, E.it.2.2.2⟩⟩
end Go.Proofs.YtambdgcogldbgaaDoor

/-
  culvertlaw24.step of a nil history
-/
namespace Go.Proofs.YtambdgcogldbgaaDoor
open Go.RowKit Go.Maps

variable {A : Nat → Addr} {w w' w0 W w1 w2 : World} {own own' : Nat → Nat} {v vn hv bw sl : Value} {U Un : Ds} {I : Nat → Prop} {k z : Int} {T T' p : Nat} {ms ns : List Int} {L L' : Hs}
variable {X : Bx} {o0 : Nat → Nat} {ws : World} {mb : Nat} {vr : Value} {kd ky n : Int} {nx : Bool} {k' : Nat}
attribute [-go_sem] Builtin.append_

set_option maxRecDepth 20000 in
set_option maxHeartbeats 4000000 in
theorem step24_none (own : Nat → Nat) (w : World) (g : OnG A w0 own w) (hL : L = []) (hTT : TOk T L) (d : RdD own w v U) (kd : Int) (hm : mdl U = L) (hl : U.length ≤ 1073741823) (hz : Zw z) (hr : Rd w0 sl ns) (hby : ∀ n ∈ ns, 0 ≤ n ∧ n ≤ 255) (hns : ns.length ≤ 1048576) (hT : T + 1048576 ≤ 70368744177664) :
    Calls Tryd.prog 8 #[.pointer none, .agg #[v], .bool true, .agg #[.int .i64 kd, .int .i64 z, .int .i64 n, .bool nx, sl]] w fun e w' => SEnds A w0 (.pointer none) own w T L e w' := by
  have S0 := Aside.mk (Sw.start g (.inr ⟨rfl, hL⟩ : Ho own 1 w (.pointer none) T L) d [.int .i64 kd, .int .i64 z, .int .i64 n, .bool nx, sl])
  have ok := Aside.mk hTT
  obtain ⟨a, c0, rfl, _⟩ := d.s
  obtain ⟨sq, sc, rfl⟩ := hr.shape
  obtain ⟨un, hun⟩ : ∃ un, U.length = un := ⟨_, rfl⟩
  obtain ⟨nn, hnn⟩ : ∃ nn, ns.length = nn := ⟨_, rfl⟩
  have HH := Aside.mk (And.intro hm (And.intro hl (And.intro hz (And.intro hr (And.intro hby (And.intro hns hT))))))
  have HD : Aside (U.length ≤ 1073741824 ∧ T ≤ 70368744177664) := ⟨by omega⟩
  clear hm hl hz hr hby hns hT g d
  rw [hun] at S0 ⊢
  rw [hnn] at S0 ⊢
  have HR : Aside (Rd w0 (.slice sq nn sc) ns ∧ ns.length ≤ 70368744177664 ∧ (got L z).rest.length ≤ 70368744177664) := ⟨by
    have h1 := HH.it.2.2.2.1
    rw [hnn] at h1
    refine ⟨h1, by have := HH.it.2.2.2.2.2.1; omega, ?_⟩
    rw [Rc.rest_len]; have := (ok.it.got z).len; have := HD.it.2; omega⟩
  have HNN := Aside.mk hnn
  clear hun hnn
  generalize hmb : w.heap.size = mb at S0
  generalize hW1 : (((w.alloc (.cells #[.slice a un c0] 28)).alloc (.cells #[.int .i64 kd, .int .i64 z, .int .i64 n, .bool nx, .slice sq nn sc] 31)).alloc (.cells #[.slice none 0 0] 28)).alloc (.cells #[.slice a un c0] 28) = W1 at S0
  generalize (give (give (give (give own mb 8) (mb + 1) 8) (mb + 1 + 1) 8) (mb + 1 + 1 + 1) 8) = own1 at S0
  have hM : Aside (w.heap.size ≤ mb) := ⟨by omega⟩
  obtain ⟨k0, k1, k2, k3, k4, k5⟩ := Sw.cells S0
  go_enter Tryd.func8, Tryd.ntmps8
  go_upto_region 2 with fail
  have S1 := Aside.mk (S0.it.quiet (Keeps.refl _ _).drew)
  clear S0 hW1 hmb
  go_cut [12] (fun bv wx => ∃ q l c own', bv = .slice q l c ∧ Aside (Sw own w A w0 own' wx (.pointer none) T L (.slice a un c0) U (.slice a un c0) U (bx4 mb (.slice a un c0) (.slice a un c0) (.slice none 0 0) [.int .i64 kd, .int .i64 z, .int .i64 n, .bool nx, .slice sq nn sc]) (.slice q l c) (givB nx n ns (got L z).rest)))
  case first =>
    clear k0 k1 k2 k3 k4 k5
    go_region_held3 (fun W => W.cell? ⟨mb, 0, none⟩ = some (.slice a un c0) ∧ W.cell? ⟨mb + 1, 0, none⟩ = some (.int .i64 kd) ∧ W.cell? ⟨mb + 1, 1, none⟩ = some (.int .i64 z) ∧ W.cell? ⟨mb + 1, 2, none⟩ = some (.int .i64 n) ∧ W.cell? ⟨mb + 1, 3, none⟩ = some (.bool nx) ∧ W.cell? ⟨mb + 1, 4, none⟩ = some (.slice sq nn sc)) (with_reducible exact Sw.cells (by with_reducible assumption)) (first
      | (go_at_call 6; with_reducible refine (sw_bytes S5 HR.it.1 HR.it.2.1 HR.it.2.2).mono ?_; rintro e w6 ⟨q6, l6, c6, own6, rfl, S6⟩)
      | (go_at_call 7; with_reducible refine (sw_rest S1 HH.it.1 HD.it.1 HD.it.2 z).mono ?_; rintro e w5 ⟨q5, l5, c5, own5, rfl, S5⟩)
      | fail)
    all_goals go_wp2_with fail
    all_goals go_meet
    all_goals exact ⟨q6, l6, c6, own6, rfl, S6⟩
  case rest =>
    obtain ⟨q6, l6, c6, own6, rfl, S6⟩ := hcut
    clear S1 k0 k1 k2 k3 k4 k5
    obtain ⟨k0, k1, k2, k3, k4, k5⟩ := Sw.cells S6
    obtain ⟨ms, hms⟩ : ∃ ms, givB nx n ns (got L z).rest = ms := ⟨_, rfl⟩
    have HBM : Aside (AreBytes ms) := ⟨by
      rw [← hms]
      unfold givB
      split
      · exact fun y hy => (ok.it.got z).byte y (List.mem_of_mem_drop (List.mem_of_mem_take hy))
      · exact HH.it.2.2.2.2.1⟩
    rw [hms] at S6
    clear hms
    go_upto_block 0 with fail
    go_cut [11, 13] (fun ev rv wx => ∃ cd q l c Un L' T' own', ev = .int .i64 cd ∧ Hid (Coded A rv cd) ∧ Aside (Sw own w A w0 own' wx (.pointer none) T' L' (.slice a un c0) U (.slice q l c) Un (bx4 mb (.slice a un c0) (.slice q l c) (.slice none 0 0) [.int .i64 kd, .int .i64 z, .int .i64 n, .bool nx, .slice sq nn sc]) (.slice q6 l6 c6) ms) ∧ Aside (mdl Un = L' ∧ T' ≤ T + 1048576 ∧ L'.length ≤ L.length + 1))
    case first =>
      have C1 : Aside (Hid (Coded A (.iface 140 (.pointer (some (A 0)))) 1)) := ⟨Coded.mk 0 1 (by decide) (by decide) rfl⟩
      by_cases q0 : kd = 0
      · subst q0
        go_upto_region 11 with fail
        have Sd := Aside.mk (S6.it.quiet (Keeps.refl _ _).drew)
        obtain ⟨ca, cc, w9, run9, N9⟩ := copyRun (Sd.it.grd HR.it.1) HNN.it (by have := HR.it.2.1; rw [HNN.it] at this; omega)
        have Sa := Aside.mk (Sd.it.quiet ((Keeps.refl _ _).alloc (.cells #[] 5)))
        have Sc := Aside.mk (Sd.it.step N9.it.k 20)
        have PR := Aside.mk (wrote_nil Sc.it.g.sents z (.slice ca nn cc))
        rw [show wc.drew.alloc (.cells #[] 5) = (wc.alloc (.cells #[] 5)).drew from rfl] at Sa run9
        rw [show wc.drew.heap.size = wc.heap.size from rfl] at run9
        clear N9 S6 k0 k1 k2 k3 k4 k5
        go_region_held3 (fun W => W.cell? ⟨mb, 0, none⟩ = some (.slice a un c0) ∧ W.cell? ⟨mb + 1, 0, none⟩ = some (.int .i64 0) ∧ W.cell? ⟨mb + 1, 1, none⟩ = some (.int .i64 z) ∧ W.cell? ⟨mb + 1, 2, none⟩ = some (.int .i64 n) ∧ W.cell? ⟨mb + 1, 3, none⟩ = some (.bool nx) ∧ W.cell? ⟨mb + 1, 4, none⟩ = some (.slice sq nn sc)) (with_reducible exact Sw.cells (by with_reducible assumption)) (first
          | (go_at_call 10; refine PR.it.mono ?_; rintro e w10 ⟨rfl, rfl⟩)
          | fail)
        all_goals go_wp2_with fail
        all_goals go_meet
        all_goals exact ⟨1, a, un, c0, U, L, T, _, rfl, C1.it, Sc, ⟨HH.it.1, Nat.le_add_right _ _, Nat.le_add_right _ _⟩⟩
      by_cases q1 : kd = 1
      · subst q1
        have PR := Aside.mk (closed_nil S6.it.g.sents z)
        go_wp2_with (first
          | (go_at_call 23; refine PR.it.mono ?_; clear PR; rintro e w9 ⟨rfl, rfl⟩)
          | fail)
        go_meet
        exact ⟨1, a, un, c0, U, L, T, own6, rfl, C1.it, S6, ⟨HH.it.1, Nat.le_add_right _ _, Nat.le_add_right _ _⟩⟩
      by_cases q2 : kd = 2
      · subst q2
        have PR := Aside.mk (gave_nil S6.it.g.sents z (.slice q6 l6 c6))
        go_wp2_with (first
          | (go_at_call 12; refine PR.it.mono ?_; clear PR; rintro e w9 ⟨rfl, rfl⟩)
          | fail)
        go_meet
        exact ⟨1, a, un, c0, U, L, T, own6, rfl, C1.it, S6, ⟨HH.it.1, Nat.le_add_right _ _, Nat.le_add_right _ _⟩⟩
      have p0 : (kd == 0) = false := beq_eq_false_iff_ne.2 q0
      have p1 : (kd == 1) = false := beq_eq_false_iff_ne.2 q1
      have p2 : (kd == 2) = false := beq_eq_false_iff_ne.2 q2
      clear q0 q1 q2
      have PR := Aside.mk (ended_nil S6.it.g.sents z)
      go_wp2_with (first
        | (go_at_call 25; refine PR.it.mono ?_; clear PR; rintro e w9 ⟨rfl, rfl⟩)
        | fail)
      go_meet
      exact ⟨1, a, un, c0, U, L, T, own6, rfl, C1.it, S6, ⟨HH.it.1, Nat.le_add_right _ _, Nat.le_add_right _ _⟩⟩
    case rest =>
      obtain ⟨cd, q9, l9, c9, Un, L9, T9, own9, rfl, C9, S9, HE⟩ := hcut
      have Sd := Aside.mk (S9.it.quiet (Keeps.refl _ _).drew)
      have e2 : (cd == cd) = true := by simp
      clear S6 S9 k0 k1 k2 k3 k4 k5
      go_upto_region 20 with fail
      go_region_held3 (fun W => W.cell? ⟨mb + 1 + 1 + 1, 0, none⟩ = some (.slice q9 l9 c9)) (first | with_reducible exact Sw.cells1 (by with_reducible assumption) | with_reducible exact Sw.cellsS (by with_reducible assumption)) (first
        | (go_at_call 19; with_reducible refine (sw_code Sd C9).mono ?_; rintro e w10 ⟨rfl, S10⟩; obtain ⟨_, r1, _, r2⟩ := Sw.cells2 S10.it)
        | fail)
      all_goals
        obtain ⟨y0, E⟩ := Sw.fin hM.it S10.it (.slice q9 l9 c9)
        generalize w10.setCell ⟨mb + 1 + 1, 0, none⟩ (.slice q9 l9 c9) = V at y0 E ⊢
        go_wp2
        refine bodyPost_ret (v := .tuple #[.agg #[.slice q9 l9 c9], .bool true]) (by simp [results, Tryd.f8, go_sem, y0]) rfl ?_
        exact ⟨q9, l9, c9, Un, T9, L9, own9, rfl, ⟨E.it.1, E.it.2.1, E.it.2.2.1, HE.it.1, HE.it.2.1, HE.it.2.2, E.it.2.2.2⟩⟩
theorem step24 (own : Nat → Nat) (w : World) (nb : Bool) (hnb : (nb = false ∧ ∃ p, hv = ptr p) ∨ (nb = true ∧ hv = .pointer none)) (g : OnG A w0 own w) (h : Ho own 1 w hv T L) (d : RdD own w v U) (kd : Int) (hm : mdl U = L) (hl : U.length ≤ 1073741823) (hz : Zw z) (hr : Rd w0 sl ns) (hby : ∀ n ∈ ns, 0 ≤ n ∧ n ≤ 255) (hns : ns.length ≤ 1048576) (hT : T + 1048576 ≤ 70368744177664) :
    Calls Tryd.prog 8 #[hv, .agg #[v], .bool nb, .agg #[.int .i64 kd, .int .i64 z, .int .i64 n, .bool nx, sl]] w fun e w' => SEnds A w0 hv own w T L e w' := by
  rcases hnb with ⟨rfl, p, rfl⟩ | ⟨rfl, rfl⟩
  · exact step24_some own w g h.tr d kd hm hl hz hr hby hns hT
  · have ok := h.ok
    rcases h with ⟨p, e, _⟩ | ⟨_, e⟩
    · simp [ptr] at e
    · exact step24_none own w g e ok d kd hm hl hz hr hby hns hT
end Go.Proofs.YtambdgcogldbgaaDoor

/-
  culvertlaw24.TraceAnswers
-/
namespace Go.Proofs.YtambdgcogldbgaaDoor
open Go.RowKit Go.Maps

variable {A : Nat → Addr} {w w' w0 W w1 w2 : World} {own own' : Nat → Nat} {v vn hv bw sl : Value} {U Un : Ds} {I : Nat → Prop} {k z : Int} {T T' p : Nat} {ms ns : List Int} {L L' : Hs} {X : Bx}
structure Tz (A : Nat → Addr) (w0 : World) (own : Nat → Nat) (W : World) (hv : Value) (T : Nat) (L : Hs) (v : Value) (U : Ds) (X : Bx) : Prop where
  g : OnG A w0 own W
  h : Ho own 1 W hv T L
  d : RdD own W v U
  x : ∀ e ∈ X, CellsO own 8 W e.1 e.2.1 e.2.2
theorem Tz.sn (h : Tz A w0 own W hv T L v U X) (s : Sn I own W own' w') (h0 : ¬ I 0) (h1 : ¬ I 1) (h8 : ¬ I 8) (h9 : ¬ I 9) : Tz A w0 own' w' hv T L v U X := ⟨h.g.sn s h0, h.h.sn s h1, h.d.sn s h9, fun e he => (h.x e he).sn s h8⟩
theorem Tz.quiet (h : Tz A w0 own W hv T L v U X) (hk : Keeps Nowhere W w') : Tz A w0 own w' hv T L v U X := h.sn (I := fun _ => False) (Sn.same hk) (fun x => x) (fun x => x) (fun x => x) (fun x => x)
theorem Tz.box (h : Tz A w0 own W hv T L v U X) (t : TypeId) (cs : List Value) : Tz A w0 (give own W.heap.size 8) (W.alloc (.cells cs.toArray t)) hv T L v U ((W.heap.size, t, cs) :: X) := by
  have k := h.sn (I := fun _ => False) (Sn.quiet ((Keeps.refl _ _).alloc (.cells cs.toArray t)) 8) (fun x => x) (fun x => x) (fun x => x) (fun x => x)
  refine { k with x := fun e he => ?_ }
  rcases List.mem_cons.1 he with rfl | he
  · exact ⟨Cells.new W t cs, give_new (Nat.le_refl _)⟩
  · exact k.x e he
theorem Tz.drop {e : Nat × TypeId × List Value} (h : Tz A w0 own W hv T L v U (e :: X)) : Tz A w0 own W hv T L v U X := { h with x := fun e he => h.x e (List.mem_cons_of_mem _ he) }
/-- a step's end -/
theorem Tz.stepd {q : Option Addr} {l c : Nat} (h : Tz A w0 own W hv T L v U X) (e : OnG A w0 own' w' ∧ Ho own' 1 w' hv T' L' ∧ RdD own' w' (.slice q l c) Un ∧ mdl Un = L' ∧ T' ≤ T + 1048576 ∧ L'.length ≤ L.length + 1 ∧ Sn (fun x => x = 1) own W own' w') : Tz A w0 own' w' hv T' L' (.slice q l c) Un X :=
  ⟨e.1, e.2.1, e.2.2.1, fun b hb => (h.x b hb).sn e.2.2.2.2.2.2 (by decide)⟩
/-- m = now -/
theorem Tz.put {nb ob mb : Nat} {cs oc mc : List Value} {t1 t2 t3 : TypeId} (h : Tz A w0 own W hv T L v U [(nb, t1, cs), (ob, t2, oc), (mb, t3, mc)]) (h1 : mb ≠ nb) (h2 : mb ≠ ob) (x : Value) : Tz A w0 own (W.setCell ⟨mb, 0, none⟩ x) hv T L v U [(nb, t1, cs), (ob, t2, oc), (mb, t3, mc.set 0 x)] := by
  have hb := h.x (mb, t3, mc) (by simp)
  have s8 : Sn (fun k => k = 8) own W own (W.setCell ⟨mb, 0, none⟩ x) := ⟨fun _ _ => rfl, (Keeps.refl _ _).setCell _ _ (fun _ => hb.2)⟩
  refine ⟨h.g.sn s8 (by decide), h.h.sn s8 (by decide), h.d.sn s8 (by decide), fun e he => ?_⟩
  simp only [List.mem_cons, List.not_mem_nil, or_false] at he
  rcases he with rfl | rfl | rfl
  · have := h.x (nb, t1, cs) (by simp)
    exact ⟨this.1.setOther ⟨mb, 0, none⟩ x (by simpa using fun e => h1 e.symm), this.2⟩
  · have := h.x (ob, t2, oc) (by simp)
    exact ⟨this.1.setOther ⟨mb, 0, none⟩ x (by simpa using fun e => h2 e.symm), this.2⟩
  · exact ⟨hb.1.setCell 0 x, hb.2⟩
theorem Tz.cells {nb ob mb : Nat} {t1 t2 t3 : TypeId} {kd ky n : Int} {nx : Bool} {x1 : List Value} (h : Aside (Tz A w0 own W hv T L v U [(nb, t1, x1), (ob, t2, [.int .i64 kd, .int .i64 ky, .int .i64 n, .bool nx, sl]), (mb, t3, [v])])) : W.cell? ⟨mb, 0, none⟩ = some v ∧ W.cell? ⟨ob, 1, none⟩ = some (.int .i64 ky) := by
  have h1 := (h.it.x (mb, t3, [v]) (by simp)).1
  have h2 := (h.it.x (ob, t2, [.int .i64 kd, .int .i64 ky, .int .i64 n, .bool nx, sl]) (by simp)).1
  exact ⟨by rw [h1.cell]; rfl, by rw [h2.cell]; rfl⟩
theorem tz_tells (h : Aside (Tz A w0 own W hv T L v U X)) (hm : mdl U = L) (hl : U.length ≤ 1073741824) (hT : T ≤ 70368744177664) (hz : Zw z) : Calls Tryd.prog 13 #[hv, .agg #[v], .int .i64 z] W fun e w' => e = .returned (.bool true) ∧ Aside (Tz A w0 own w' hv T L v U X) := by
  refine (tells_at h.it.h h.it.d hm hl hz hT).mono ?_
  rintro e w' ⟨rfl, K⟩
  exact ⟨rfl, ⟨h.it.quiet K.it⟩⟩
theorem zw_wrap (z : Int) : Zw (IntKind.i64.wrap z) := by
  simp only [Zw, IntKind.wrap, IntKind.signed, IntKind.bits]
  simp
  split <;> omega
theorem tz_keys (h : Aside (Tz A w0 own W hv T L v U X)) (hm : mdl U = L) : Calls Tryd.prog 15 #[hv] W fun e w' => ∃ kv, e = .returned kv ∧ Aside (RdI w' kv (tk (mdl U))) ∧ Aside (Tz A w0 own w' hv T L v U X) := by
  refine (ho_keys h.it.h).mono ?_
  rintro e w' ⟨kv, rfl, R, K⟩
  exact ⟨kv, rfl, ⟨by rw [hm]; exact R.it.rdI (fun z hz => by obtain ⟨x, hx, rfl⟩ := List.mem_map.1 hz; exact h.it.h.ok.kb x hx)⟩, ⟨h.it.quiet K.it⟩⟩
theorem tz_same {kv : Value} (h : Aside (Tz A w0 own W hv T L v U X)) (hl : U.length ≤ 1073741824) (hk : Aside (RdI W kv (tk (mdl U)))) : Calls Tryd.prog 16 #[kv, .agg #[v]] W fun e w' => e = .returned (.bool true) ∧ Aside (Tz A w0 own w' hv T L v U X) := by
  refine (sameKeys_at h.it.d hl hk.it).mono ?_
  rintro e w' ⟨rfl, K⟩
  exact ⟨rfl, ⟨h.it.quiet K.it⟩⟩
def Nv (nb : Bool) (hv : Value) : Prop := (nb = false ∧ ∃ p, hv = ptr p) ∨ (nb = true ∧ hv = .pointer none)
theorem Tz.cell1 {mb : Nat} {t : TypeId} (h : Aside (Tz A w0 own W hv T L v U [(mb, t, [v])])) : W.cell? ⟨mb, 0, none⟩ = some v := by rw [(h.it.x (mb, t, [v]) (by simp)).1.cell]; rfl
theorem tz_text (h : Aside (Tz A w0 own W hv T L v U X)) (hT : T ≤ 70368744177664) (hn : L.length ≤ 1073741824) (hp : PowT w0) : Calls Tryd.prog 20 #[hv] W fun e w' => e = .returned (.string (str (textT L))) ∧ Aside (Tz A w0 own w' hv T L v U X) := by
  refine (ho_text h.it.h (powT_later hp h.it.g.g.bel) hT hn).mono ?_
  rintro e w' ⟨rfl, K⟩
  exact ⟨rfl, ⟨h.it.quiet K.it⟩⟩
/-- behind a round -/
def Tn (A : Nat → Addr) (w0 : World) (hv : Value) (m n : Nat) (mb : Nat) (v : Value) (W : World) : Prop := ∃ own T L U, T ≤ m ∧ L.length ≤ n ∧ mdl U = L ∧ Tz A w0 own W hv T L v U [(mb, 28, [v])]
end Go.Proofs.YtambdgcogldbgaaDoor

