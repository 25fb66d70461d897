/-
  package pings: what a Pings is in memory; parts, New, Owed, Waiting, Replied
-/
import Derived.Test.YtnmpnajmhfonhaaDoorPgT
import Derived.Test.YtnmpnajmhfonhaaDoorFifoCuint32
import Derived.Test.YtnmpnajmhfonhaaDoorSn
import Derived.Test.YtnmpnajmhfonhaaDoorCodedZ
import Derived.Handy
import Derived.BigQuiet
import Derived.Deep.QuietTactic
namespace Go.Proofs.YtnmpnajmhfonhaaDoor
open Go.RowKit Fuint32

variable {A : Nat → Addr} {w w' W w0 : World} {own own' : Nat → Nat} {i r p mb fp first : Nat} {av fv v v' : Value} {gone : List Value} {m : Pm} {L : List Nat} {I : Nat → Prop}

def qn (L : List Nat) : List (Nat × Nat) := L.map fun x => (x, 0)
theorem qn_len (L : List Nat) : (qn L).length = L.length := by simp [qn]
theorem qn_sum (L : List Nat) : sumW (qn L) = 0 := by
  induction L with
  | nil => rfl
  | cons x L ih => rw [show qn (x :: L) = (x, 0) :: qn L from rfl, sumW_cons, ih]
theorem qn_snoc (L : List Nat) (x : Nat) : qn L ++ [(x, 0)] = qn (L ++ [x]) := by simp [qn]

def pcel (most last mb : Nat) (av : Value) (fp : Nat) : List Value := [.int .i64 most, .int .u32 last, .map (some mb), av, ptr fp]
structure PgI (w : World) (p mb fp : Nat) (av fv : Value) (first : Nat) (gone : List Value) (m : Pm) : Prop where
  box : Cells w p 56 (pcel m.most m.last mb av fp)
  mp : Pg.MapV w mb m.L
  an : w.ownsRow 0 37 1 av m.an.length (m.an.map e32)
  q : FifoIn w fp m.most 0 (qn m.ow) fv first gone
  half : first ≤ m.ow.length
  ok : m.Ok
  pos : 1 ≤ m.most
/-- a Pings whose blocks are i's, but for the row of the answered, which is r's -/
def PgO (own : Nat → Nat) (i r : Nat) (w : World) (p : Nat) (m : Pm) : Prop :=
  ∃ mb fp av fv first gone, PgI w p mb fp av fv first gone m ∧ own p = i ∧ own mb = i ∧ (∀ k, av.ownBlock = some k → own k = r) ∧ ∀ k, Fuint32.Own fp fv k → own k = i
/-- a Pings, or nil -/
def PgV (own : Nat → Nat) (i r : Nat) (w : World) (x : Value) (m : Pm) : Prop := (x = .pointer none ∧ m = Pm.zero) ∨ ∃ p, x = ptr p ∧ PgO own i r w p m

theorem PgI.later {S : Nat → Prop} (h : PgI w p mb fp av fv first gone m) (hk : Keeps S w w') (h1 : ¬ S p) (h2 : ¬ S mb) (h3 : ∀ k, av.ownBlock = some k → ¬ S k) (h4 : ∀ k, Fuint32.Own fp fv k → ¬ S k) : PgI w' p mb fp av fv first gone m :=
  ⟨h.box.later hk h1, h.mp.later hk h2, owns_later h.an hk h3, h.q.later hk h4, h.half, h.ok, h.pos⟩
theorem PgI.quiet (h : PgI w p mb fp av fv first gone m) (hk : Keeps Nowhere w w') : PgI w' p mb fp av fv first gone m := h.later hk (fun x => x) (fun x => x) (fun _ _ x => x) (fun _ _ x => x)
theorem PgO.sn (h : PgO own i r w p m) (s : Sn I own w own' w') (hi : ¬ I i) (hr : ¬ I r) : PgO own' i r w' p m := by
  obtain ⟨mb, fp, av, fv, f, g, h, hp, hm, ha, hf⟩ := h
  refine ⟨mb, fp, av, fv, f, g, h.later s.keeps (fun e => hi (by rw [← hp]; exact e)) (fun e => hi (by rw [← hm]; exact e)) (fun k hk e => hr (by rw [← ha k hk]; exact e)) (fun k hk e => hi (by rw [← hf k hk]; exact e)), (s.agree p h.box.lt).trans hp, (s.agree mb h.mp.lt).trans hm, fun k hk => (s.agree k (owns_lt h.an k hk)).trans (ha k hk), fun k hk => (s.agree k (h.q.lt k hk)).trans (hf k hk)⟩
theorem PgO.quiet (h : PgO own i r w p m) (hk : Keeps Nowhere w w') : PgO own i r w' p m := h.sn (I := fun _ => False) (Sn.same hk) (fun x => x) (fun x => x)
theorem PgV.sn {x : Value} (h : PgV own i r w x m) (s : Sn I own w own' w') (hi : ¬ I i) (hr : ¬ I r) : PgV own' i r w' x m := by
  rcases h with h | ⟨p, hx, h⟩
  · exact .inl h
  · exact .inr ⟨p, hx, h.sn s hi hr⟩
theorem PgV.quiet {x : Value} (h : PgV own i r w x m) (hk : Keeps Nowhere w w') : PgV own i r w' x m := h.sn (I := fun _ => False) (Sn.same hk) (fun x => x) (fun x => x)
theorem PgV.step {x : Value} (h : PgV own i r w x m) (hk : Keeps Nowhere w w') (j : Nat) : PgV (give own w.heap.size j) i r w' x m := h.sn (I := fun _ => False) (Sn.quiet hk j) (fun x => x) (fun x => x)
theorem PgV.ok {x : Value} (h : PgV own i r w x m) : m.Ok := by
  rcases h with ⟨_, rfl⟩ | ⟨p, _, mb, fp, av, fv, f, g, h, _⟩
  · exact Pm.zero_ok
  · exact h.ok

theorem cells_ne {p p' : Nat} {e e' : TypeId} {ys zs : List Value} (h : Cells W p e ys) (h' : Cells W p' e' zs) (hne : e ≠ e') : p ≠ p' := by
  rintro rfl
  have := Option.some.inj ((show W.heap[p]? = _ from h).symm.trans h')
  injection this with _ e2
  exact hne e2
theorem PgI.ne_map (h : PgI w p mb fp av fv first gone m) : p ≠ mb := fun e => by
  obtain ⟨es, clock, hmb⟩ := h.mp.isMap
  have := h.box
  unfold Cells at this
  rw [e, hmb] at this
  cases this
theorem PgI.ne_q (h : PgI w p mb fp av fv first gone m) : ¬ Fuint32.Own fp fv p := by
  rintro (e | e)
  · exact cells_ne h.box h.q.cells (by decide) e
  · exact owns_ne h.q.row h.box (by decide) e
theorem PgI.ne_an (h : PgI w p mb fp av fv first gone m) : ¬ av.ownBlock = some p := fun e => owns_ne h.an h.box (by decide) e
theorem PgI.q_map (h : PgI w p mb fp av fv first gone m) : ¬ Fuint32.Own fp fv mb := by
  obtain ⟨es, clock, hmb⟩ := h.mp.isMap
  rintro (e | e)
  · have := h.q.cells
    unfold Cells at this
    rw [← e, hmb] at this
    cases this
  · rcases h.q.row.2 with ⟨h0, _⟩ | ⟨g, cap, cur, h0, _, hb, _⟩
    · rw [h0] at e; cases e
    · rw [h0] at e
      injection e with e
      rw [← e, hb] at hmb
      cases hmb
theorem PgI.an_map (h : PgI w p mb fp av fv first gone m) : ¬ av.ownBlock = some mb := by
  obtain ⟨es, clock, hmb⟩ := h.mp.isMap
  intro e
  rcases h.an.2 with ⟨h0, _⟩ | ⟨g, cap, cur, h0, _, hb, _⟩
  · rw [h0] at e; cases e
  · rw [h0] at e
    injection e with e
    rw [← e, hb] at hmb
    cases hmb
theorem PgI.an_q (h : PgI w p mb fp av fv first gone m) {k : Nat} (hk : av.ownBlock = some k) : ¬ Fuint32.Own fp fv k := by
  rcases h.an.2 with ⟨h0, _⟩ | ⟨g, cap, cur, h0, _, hb, _⟩
  · rw [h0] at hk; cases hk
  · rw [h0] at hk
    injection hk with hk
    subst hk
    rintro (e | e)
    · have := h.q.cells
      unfold Cells at this
      rw [← e, hb] at this
      injection this with this
      injection this with _ this
      revert this
      decide
    · rcases h.q.row.2 with ⟨h1, _⟩ | ⟨g', cap', cur', h1, _, hb', _⟩
      · rw [h1] at e; cases e
      · rw [h1] at e
        injection e with e
        have e : g' = g := e
        subst e
        rw [hb'] at hb
        injection hb with hb
        injection hb with _ hb
        revert hb
        decide

theorem pg_f2 (a : Int) (b : Int) (c : Option Nat) (v : Value) (d : Option Addr) (w : World) : Sem.run Tryd.prog (Instr.field 56 (.agg #[.int .i64 a, .int .u32 b, .map c, v, .pointer d]) 2) w = .ok (.map c) w := by kernel_rfl
theorem pg_f4 (a : Int) (b : Int) (c : Option Nat) (v : Value) (d : Option Addr) (w : World) : Sem.run Tryd.prog (Instr.field 56 (.agg #[.int .i64 a, .int .u32 b, .map c, v, .pointer d]) 4) w = .ok (.pointer d) w := by kernel_rfl
/-- what parts answers -/
def Pt (w : World) (x : Value) (c : Option Nat) (d : Option Addr) : Prop := ∀ W, Keeps Nowhere w W → Calls Tryd.prog 24 #[x] W fun e w' => ∃ (a b : Int) (a1 : Option Addr) (l1 c1 : Nat), e = .returned (.agg #[.int .i64 a, .int .u32 b, .map c, .slice a1 l1 c1, .pointer d]) ∧ Aside (Keeps Nowhere W w')
theorem Pt.nil (w : World) : Pt w (.pointer none) none none := by
  intro W _
  go_enter Tryd.func24, Tryd.ntmps24
  go_wp2
  have c := (Cells.new W 56 [.int .i64 0, .int .u32 0, .map none, .slice none 0 0, .pointer none])
  have c0 := c.cell 0
  have c1 := c.cell 1
  have c2 := c.cell 2
  have c3 := c.cell 3
  have c4 := c.cell 4
  refine bodyPost_ret (v := .agg #[.int .i64 0, .int .u32 0, .map none, .slice none 0 0, .pointer none]) (by simp [results, Tryd.f24, go_sem, c0, c1, c2, c3, c4]) rfl ?_
  exact ⟨0, 0, none, 0, 0, rfl, ⟨(Keeps.refl _ _).alloc _⟩⟩
theorem Pt.at {most last : Nat} {a1 : Option Addr} {l1 c1 : Nat} (h : Cells w p 56 (pcel most last mb (.slice a1 l1 c1) fp)) : Pt w (ptr p) (some mb) (some ⟨fp, 0, none⟩) := by
  intro W k
  have c := h.later k (fun x => x)
  have c0 := c.cell 0
  have c1' := c.cell 1
  have c2 := c.cell 2
  have c3 := c.cell 3
  have c4 := c.cell 4
  simp only [pcel, List.getElem?_cons_zero, List.getElem?_cons_succ] at c0 c1' c2 c3 c4
  have a0 := alloc_cell (W := W) (Obj.cells #[.int .i64 0, .int .u32 0, .map none, .slice none 0 0, .pointer none] 56) (a := ⟨p, 0, none⟩) c0
  have a1' := alloc_cell (W := W) (Obj.cells #[.int .i64 0, .int .u32 0, .map none, .slice none 0 0, .pointer none] 56) (a := ⟨p, 1, none⟩) c1'
  have a2 := alloc_cell (W := W) (Obj.cells #[.int .i64 0, .int .u32 0, .map none, .slice none 0 0, .pointer none] 56) (a := ⟨p, 2, none⟩) c2
  have a3 := alloc_cell (W := W) (Obj.cells #[.int .i64 0, .int .u32 0, .map none, .slice none 0 0, .pointer none] 56) (a := ⟨p, 3, none⟩) c3
  have a4 := alloc_cell (W := W) (Obj.cells #[.int .i64 0, .int .u32 0, .map none, .slice none 0 0, .pointer none] 56) (a := ⟨p, 4, none⟩) c4
  clear c h k
  go_enter Tryd.func24, Tryd.ntmps24
  go_wp2
  have c := Cells.new W 56 [.int .i64 most, .int .u32 last, .map (some mb), .slice a1 l1 c1, ptr fp]
  have d0 := c.cell 0
  have d1 := c.cell 1
  have d2 := c.cell 2
  have d3 := c.cell 3
  have d4 := c.cell 4
  refine bodyPost_ret (v := .agg #[.int .i64 most, .int .u32 last, .map (some mb), .slice a1 l1 c1, ptr fp]) (by simp [results, Tryd.f24, go_sem, d0, d1, d2, d3, d4]) rfl ?_
  exact ⟨most, last, a1, l1, c1, rfl, ⟨(Keeps.refl _ _).alloc _⟩⟩
theorem PgI.pt (h : PgI w p mb fp av fv first gone m) : Pt w (ptr p) (some mb) (some ⟨fp, 0, none⟩) := by
  obtain ⟨a1, l1, c1, rfl⟩ := owns_shapeK h.an
  exact Pt.at h.box

theorem pnew_no (n : Int) (w : World) (er : Value) (hc : w.cell? ⟨0, 0, none⟩ = some er) (h : n < 1 ∨ 1024 < n) : Calls Tryd.prog 8 #[.int .i64 n] w fun e w' => e = .returned (.tuple #[.pointer none, er]) ∧ Aside (Keeps Nowhere w w') := by
  rcases Int.lt_or_le n 1 with h1 | h1
  · clear h
    go_enter Tryd.func8, Tryd.ntmps8
    go_wp2_with fail
    go_region_held_law (fun w' => w'.cell? ⟨0, 0, none⟩ = some er) (exact hc) (fail)
    go_wp2
    go_ret2
    exact ⟨rfl, ⟨(Keeps.refl _ _).drew⟩⟩
  · have h2 : 1024 < n := by omega
    clear h
    go_enter Tryd.func8, Tryd.ntmps8
    go_wp2_with fail
    go_region_held_law (fun w' => w'.cell? ⟨0, 0, none⟩ = some er) (exact hc) (fail)
    go_wp2
    go_ret2
    exact ⟨rfl, ⟨(Keeps.refl _ _).drew⟩⟩
theorem mk_map (w : World) : (Instr.makeMap 54 none).run Tryd.prog w = .ok (.map (some w.heap.size)) (w.alloc (.map #[] 0)) := by kernel_rfl
theorem pnew_ok (n : Nat) (h1 : 1 ≤ n) (h2 : n ≤ 1024) (w : World) (own : Nat → Nat) (i r : Nat) : Calls Tryd.prog 8 #[.int .i64 n] w fun e w' => ∃ p, e = .returned (.tuple #[ptr p, .nilIface]) ∧ Aside (PgO (give own w.heap.size i) i r w' p (Pm.new n)) ∧ Aside (w.heap.size ≤ p) ∧ Aside (Keeps Nowhere w w') := by
  have N := Aside.mk (new_good w n 0 (by omega) (by omega))
  have h1' : ¬ (n : Int) < 1 := by omega
  have h2' : ¬ (1024 : Int) < n := by omega
  have H2 := Aside.mk (And.intro h1 h2)
  have hm := fun w => mk_map w
  clear h1 h2
  go_enter Tryd.func8, Tryd.ntmps8
  go_wp2_with (go_at_call 21; refine N.it.mono ?_; rintro e w1 ⟨rfl, F1, K1⟩; have F1 := Aside.mk F1; have K1 := Aside.mk K1)
  go_ret2
  have KA : Keeps Nowhere w1 ((w1.alloc (.map #[] 0)).alloc (.cells #[.int .i64 n, .int .u32 0, .map (some w1.heap.size), .slice none 0 0, ptr w.heap.size] 56)) := ((Keeps.refl _ _).alloc _).alloc _
  have hz := K1.it.size
  refine ⟨w1.heap.size + 1, rfl, ⟨w1.heap.size, w.heap.size, .slice none 0 0, .slice none 0 0, 0, [], ⟨?_, (Pg.MapV.made w1).later (S := Nowhere) ((Keeps.refl _ _).alloc _) (fun x => x), World.ownsRow_nil _ _ _ _, F1.it.later KA (fun _ _ x => x), Nat.le_refl _, Pm.new_ok H2.it.2, H2.it.1⟩, give_new (by omega), give_new hz, (fun k e => by cases e), ?_⟩, ⟨by omega⟩, ⟨K1.it.trans KA⟩⟩
  · have := Cells.new (w1.alloc (.map #[] 0)) 56 (pcel n 0 w1.heap.size (.slice none 0 0) w.heap.size)
    rw [World.size_alloc] at this
    exact this
  rintro k (e | e)
  · exact give_new (by omega)
  · cases e

theorem owed_of (x : Value) (c : Option Nat) (d : Option Addr) (n : Nat) (PT : Pt w x c d) (LN : ∀ W, Keeps Nowhere w W → Calls Tryd.prog 25 #[.pointer d] W fun e w' => e = .returned (.int .i64 n) ∧ Keeps Nowhere W w') :
    Calls Tryd.prog 10 #[x] w fun e w' => e = .returned (.int .i64 n) ∧ Aside (Keeps Nowhere w w') := by
  have P := Aside.mk (PT w (Keeps.refl _ _))
  have N := Aside.mk LN
  clear PT LN
  go_enter Tryd.func10, Tryd.ntmps10
  go_wp2_with (first | (go_at_call 24; refine P.it.mono ?_; rintro e w1 ⟨a, b, a1, l1, c1, rfl, K1⟩; have F4 := pg_f4 a b c (.slice a1 l1 c1) d) | (go_at_call 25; refine (N.it w1 K1.it).mono ?_; rintro e w2 ⟨rfl, k2⟩) | fail)
  go_ret
  exact ⟨rfl, ⟨K1.it.trans k2⟩⟩
theorem powed {x : Value} (h : PgV own i r w x m) : Calls Tryd.prog 10 #[x] w fun e w' => e = .returned (.int .i64 m.ow.length) ∧ Aside (Keeps Nowhere w w') := by
  rcases h with ⟨rfl, rfl⟩ | ⟨p, rfl, mb, fp, av, fv, f, g, h, _⟩
  · exact owed_of _ none none 0 (Pt.nil w) (fun W _ => (len_nil W).mono fun e w' h => ⟨h.1, by rw [h.2]; exact Keeps.refl _ _⟩)
  · refine owed_of _ _ _ m.ow.length h.pt (fun W k => ?_)
    have := len_in (h.q.later k (fun _ _ x => x))
    rw [qn_len] at this
    exact this

theorem wait_of (x : Value) (c : Option Nat) (d : Option Addr) (L : Tl Unit) (hu : Up L) (hL : L.length ≤ 1073741824) (PT : Pt w x c d) (GV : ∀ W b, Keeps Nowhere w W → W.cell? ⟨b, 0, none⟩ = some (.map c) → Pg.Gives 2 W b L) :
    Calls Tryd.prog 11 #[x] w fun e w' => ∃ (a : Option Addr) (cc : Nat), e = .returned (.slice a L.length cc) ∧ Aside (w'.ownsRow w.heap.size 37 1 (.slice a L.length cc) L.length ((ks L).map e32)) ∧ Aside (Keeps Nowhere w w') := by
  have P := Aside.mk (PT w (Keeps.refl _ _))
  have G := Aside.mk GV
  have HU := Aside.mk hu
  have HL := Aside.mk hL
  clear PT GV hu hL
  go_enter Tryd.func11, Tryd.ntmps11
  go_wp2_with (first
    | (go_at_call 24; refine P.it.mono ?_; rintro e w1 ⟨a, b, a1, l1, c1, rfl, K1⟩; have F2 := pg_f2 a b c (.slice a1 l1 c1) d)
    | (go_at_call 27; refine (Pg.keys_of c w1).mono ?_; rintro e w2 ⟨rfl, hw2⟩; have K2 : Aside (Keeps Nowhere w w2) := ⟨by rw [hw2]; exact K1.it.alloc _⟩; have C2 : Aside (w2.cell? ⟨w1.heap.size, 0, none⟩ = some (.map c)) := ⟨by rw [hw2]; exact (Cells.new w1 54 [.map c]).cell 0⟩; have S2 := Aside.mk (Pg.sorted_of HU.it HL.it (G.it w2 w1.heap.size K2.it C2.it)); clear hw2)
    | (go_at_call 26; refine S2.it.mono ?_; rintro e w3 ⟨v, rfl, R3, K3⟩)
    | fail)
  go_ret
  obtain ⟨a', l', c', rfl⟩ := owns_shapeK R3.it
  have hl := R3.it.1
  obtain rfl : l' = L.length := by
    rcases R3.it.2 with ⟨e, h0⟩ | ⟨g, cap, cur, e, _⟩
    · injection e with _ e1; omega
    · injection e with _ e1
  exact ⟨a', c', rfl, ⟨Pg.owns_mono R3.it K2.it.size⟩, ⟨K2.it.trans K3.it⟩⟩
/-- Waiting: new memory -/
theorem pwait {x : Value} (h : PgV own i r w x m) : Calls Tryd.prog 11 #[x] w fun e w' => ∃ (a : Option Addr) (cc : Nat), e = .returned (.slice a m.L.length cc) ∧ Aside (w'.ownsRow w.heap.size 37 1 (.slice a m.L.length cc) m.L.length ((ks m.L).map e32)) ∧ Aside (Keeps Nowhere w w') := by
  rcases h with ⟨rfl, rfl⟩ | ⟨p, rfl, mb, fp, av, fv, f, g, h, _⟩
  · exact wait_of _ none none [] Up.nil (by simp) (Pt.nil w) (fun W b _ hc => Pg.gives_nil 2 b hc)
  · refine wait_of _ _ _ m.L h.ok.up (by have := h.ok.wl; have := h.ok.top; omega) h.pt (fun W b k hc => Pg.gives_at 2 (by decide) b hc (h.quiet k).mp h.ok.up)
end Go.Proofs.YtnmpnajmhfonhaaDoor
