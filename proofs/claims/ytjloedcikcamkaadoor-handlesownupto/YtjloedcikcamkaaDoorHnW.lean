/-
  culvertlaw22.HandlesPlays
-/
import Derived.Test.YtjloedcikcamkaaDoorHnV
namespace Go.Proofs.YtjloedcikcamkaaDoor
open Go.RowKit

variable {A : Nat → Addr} {w w' W : World} {own own' : Nat → Nat} {p g g0 wb nb : Nat} {L : Hl} {v vt : Value} {I : Nat → Prop} {b q : Nat} {kd c l hh : Int} {d : Nat}

/-- a Handles, the document's, and its box -/
structure Pw (A : Nat → Addr) (w : World) (own : Nat → Nat) (W : World) (p g : Nat) (L : Hl) (v : Value) (wb : Nat) : Prop where
  og : OnG A w own W
  t : Hp own 1 W p g L v
  c : CellsO own 8 W wb 28 [.int .i64 g, v]
theorem Pw.quiet (h : Pw A w own W p g L v wb) (hk : Keeps Nowhere W w') : Pw A w own w' p g L v wb := ⟨h.og.quiet hk, h.t.quiet hk, h.c.sn (I := fun _ => False) (Sn.same hk) (fun x => x)⟩
theorem Pw.bel (h : Pw A w own W p g L v wb) : Keeps Nowhere w W := Keeps.ofBelow h.og.g.bel
/-- the op of the script that is played -/
def OpAt (w : World) (b q : Nat) (kd c l : Int) (d : Nat) (hh : Int) : Prop := b < w.heap.size ∧ w.cell? ⟨b, q, none⟩ = some (.int .i64 kd) ∧ w.cell? ⟨b, q + 1, none⟩ = some (.int .i64 c) ∧ w.cell? ⟨b, q + 2, none⟩ = some (.int .i64 l) ∧ w.cell? ⟨b, q + 3, none⟩ = some (.int .u32 (d : Nat)) ∧ w.cell? ⟨b, q + 4, none⟩ = some (.int .i64 hh)
theorem OpAt.later (h : OpAt w b q kd c l d hh) (hk : Keeps Nowhere w w') : OpAt w' b q kd c l d hh := by
  obtain ⟨h0, h1, h2, h3, h4, h5⟩ := h
  have hb := hk.block b h0 (fun x => x)
  exact ⟨Nat.lt_of_lt_of_le h0 hk.size, by rw [World.cell?_of_block (w := w) hb]; exact h1, by rw [World.cell?_of_block (w := w) hb]; exact h2, by rw [World.cell?_of_block (w := w) hb]; exact h3, by rw [World.cell?_of_block (w := w) hb]; exact h4, by rw [World.cell?_of_block (w := w) hb]; exact h5⟩
/-- within a round: the Handles and the document's next, the box with the old one, the op of the script -/
structure Pz (A : Nat → Addr) (w : World) (own : Nat → Nat) (W : World) (p g : Nat) (L : Hl) (vt : Value) (wb g0 : Nat) (v : Value) (b q : Nat) (kd c l : Int) (d : Nat) (hh : Int) : Prop where
  og : OnG A w own W
  t : Hp own 1 W p g L vt
  bc : CellsO own 8 W wb 28 [.int .i64 g0, v]
  o : OpAt w b q kd c l d hh
theorem Pz.sn (h : Pz A w own W p g L vt wb g0 v b q kd c l d hh) (s : Sn I own W own' w') (h0 : ¬ I 0) (h1 : ¬ I 1) (h8 : ¬ I 8) (h9 : ¬ I 9) : Pz A w own' w' p g L vt wb g0 v b q kd c l d hh := ⟨h.og.sn s h0, h.t.sn s h1 h9, h.bc.sn s h8, h.o⟩
theorem Pz.quiet (h : Pz A w own W p g L vt wb g0 v b q kd c l d hh) (hk : Keeps Nowhere W w') : Pz A w own w' p g L vt wb g0 v b q kd c l d hh := h.sn (I := fun _ => False) (Sn.same hk) (fun x => x) (fun x => x) (fun x => x) (fun x => x)
theorem Pz.h0 (h : Pz A w own W p g L vt wb g0 v b q kd c l d hh) : W.cell? ⟨wb, 0, none⟩ = some (.int .i64 g0) ∧ W.cell? ⟨wb, 1, none⟩ = some v ∧ W.cell? ⟨b, q, none⟩ = some (.int .i64 kd) ∧ W.cell? ⟨b, q + 1, none⟩ = some (.int .i64 c) ∧ W.cell? ⟨b, q + 2, none⟩ = some (.int .i64 l) ∧ W.cell? ⟨b, q + 3, none⟩ = some (.int .u32 (d : Nat)) ∧ W.cell? ⟨b, q + 4, none⟩ = some (.int .i64 hh) := by
  obtain ⟨_, h1, h2, h3, h4, h5⟩ := h.o.later (Keeps.ofBelow h.og.g.bel)
  exact ⟨by rw [h.bc.1.cell]; rfl, by rw [h.bc.1.cell]; rfl, h1, h2, h3, h4, h5⟩
theorem Pz.h (h : Aside (Pz A w own W p g L vt wb g0 v b q kd c l d hh)) : W.cell? ⟨wb, 0, none⟩ = some (.int .i64 g0) ∧ W.cell? ⟨wb, 1, none⟩ = some v ∧ W.cell? ⟨b, q, none⟩ = some (.int .i64 kd) ∧ W.cell? ⟨b, q + 1, none⟩ = some (.int .i64 c) ∧ W.cell? ⟨b, q + 2, none⟩ = some (.int .i64 l) ∧ W.cell? ⟨b, q + 3, none⟩ = some (.int .u32 (d : Nat)) ∧ W.cell? ⟨b, q + 4, none⟩ = some (.int .i64 hh) := h.it.h0
theorem Pz.hA (h : Aside (Pz A w own W p g L vt wb g0 v b q kd c l d hh)) {ob : Obj} : (W.alloc ob).cell? ⟨wb, 0, none⟩ = some (.int .i64 g0) ∧ (W.alloc ob).cell? ⟨wb, 1, none⟩ = some v ∧ (W.alloc ob).cell? ⟨b, q, none⟩ = some (.int .i64 kd) ∧ (W.alloc ob).cell? ⟨b, q + 1, none⟩ = some (.int .i64 c) ∧ (W.alloc ob).cell? ⟨b, q + 2, none⟩ = some (.int .i64 l) ∧ (W.alloc ob).cell? ⟨b, q + 3, none⟩ = some (.int .u32 (d : Nat)) ∧ (W.alloc ob).cell? ⟨b, q + 4, none⟩ = some (.int .i64 hh) := (h.it.quiet ((Keeps.refl _ _).alloc ob)).h0
/-- and a box laid ahead of the call -/
structure Pn (A : Nat → Addr) (w : World) (own : Nat → Nat) (W : World) (p g : Nat) (L : Hl) (vt : Value) (wb g0 : Nat) (v : Value) (b q : Nat) (kd c l : Int) (d : Nat) (hh : Int) (nb : Nat) : Prop where
  z : Pz A w own W p g L vt wb g0 v b q kd c l d hh
  n : ∃ r0 r1, CellsO own 7 W nb 28 [r0, r1]
theorem Pn.h (h : Aside (Pn A w own W p g L vt wb g0 v b q kd c l d hh nb)) : W.cell? ⟨wb, 0, none⟩ = some (.int .i64 g0) ∧ W.cell? ⟨wb, 1, none⟩ = some v ∧ W.cell? ⟨b, q, none⟩ = some (.int .i64 kd) ∧ W.cell? ⟨b, q + 1, none⟩ = some (.int .i64 c) ∧ W.cell? ⟨b, q + 2, none⟩ = some (.int .i64 l) ∧ W.cell? ⟨b, q + 3, none⟩ = some (.int .u32 (d : Nat)) ∧ W.cell? ⟨b, q + 4, none⟩ = some (.int .i64 hh) := h.it.z.h0
theorem Pn.write (h : Pn A w own W p g L vt wb g0 v b q kd c l d hh nb) (x y : Value) : Pz A w own ((W.setCell ⟨nb, 0, none⟩ x).setCell ⟨nb, 1, none⟩ y) p g L vt wb g0 v b q kd c l d hh := by
  obtain ⟨r0, r1, hn⟩ := h.n
  have s7 : Sn (fun k => k = 7) own W own ((W.setCell ⟨nb, 0, none⟩ x).setCell ⟨nb, 1, none⟩ y) := ⟨fun _ _ => rfl, ((Keeps.refl _ _).setCell _ _ (fun _ => hn.2)).setCell _ _ (fun _ => hn.2)⟩
  exact h.z.sn s7 (by decide) (by decide) (by decide) (by decide)
theorem Pn.hS (h : Aside (Pn A w own W p g L vt wb g0 v b q kd c l d hh nb)) {x y : Value} : ((W.setCell ⟨nb, 0, none⟩ x).setCell ⟨nb, 1, none⟩ y).cell? ⟨wb, 0, none⟩ = some (.int .i64 g0) ∧ ((W.setCell ⟨nb, 0, none⟩ x).setCell ⟨nb, 1, none⟩ y).cell? ⟨wb, 1, none⟩ = some v ∧ ((W.setCell ⟨nb, 0, none⟩ x).setCell ⟨nb, 1, none⟩ y).cell? ⟨b, q, none⟩ = some (.int .i64 kd) ∧ ((W.setCell ⟨nb, 0, none⟩ x).setCell ⟨nb, 1, none⟩ y).cell? ⟨b, q + 1, none⟩ = some (.int .i64 c) ∧ ((W.setCell ⟨nb, 0, none⟩ x).setCell ⟨nb, 1, none⟩ y).cell? ⟨b, q + 2, none⟩ = some (.int .i64 l) ∧ ((W.setCell ⟨nb, 0, none⟩ x).setCell ⟨nb, 1, none⟩ y).cell? ⟨b, q + 3, none⟩ = some (.int .u32 (d : Nat)) ∧ ((W.setCell ⟨nb, 0, none⟩ x).setCell ⟨nb, 1, none⟩ y).cell? ⟨b, q + 4, none⟩ = some (.int .i64 hh) := (h.it.write x y).h0
theorem Pn.res (h : Aside (Pn A w own W p g L vt wb g0 v b q kd c l d hh nb)) : ∃ r0 r1, W.cell? ⟨nb, 0, none⟩ = some r0 ∧ W.cell? ⟨nb, 1, none⟩ = some r1 ∧ W.frozen? ⟨nb, 0, none⟩ = false ∧ W.frozen? ⟨nb, 1, none⟩ = false := by
  obtain ⟨r0, r1, h2⟩ := h.it.n
  exact ⟨r0, r1, by rw [h2.1.cell]; rfl, by rw [h2.1.cell]; rfl, h2.1.frozen 0, h2.1.frozen 1⟩
theorem pz_step (h : Aside (Pz A w own W p g L v wb g v b q kd c l d hh)) (hw : (⟨c, l, d⟩ : Pl).Wide) (hz : Zw hh) (hg : g < 2147483648) : Calls Tryd.prog 10 #[ptr p, .agg #[.int .i64 g, v], .agg #[.int .i64 kd, .int .i64 c, .int .i64 l, .int .u32 (d : Nat), .int .i64 hh]] W fun e w' => ∃ (g6 : Nat) (qa : Option Addr) (ql qc : Nat) (L6 : Hl) (own6 : Nat → Nat), e = .returned (.tuple #[.agg #[.int .i64 g6, .slice qa ql qc], .bool true]) ∧ Aside (g6 ≤ g + 1) ∧ Aside (Pz A w own6 w' p g6 L6 (.slice qa ql qc) wb g v b q kd c l d hh) := by
  refine (step22 own W h.it.og h.it.t kd ⟨c, l, d⟩ hh hw hz (by decide) hg).mono ?_
  rintro e w' ⟨g6, v6, L6, own6, rfl, X6⟩
  obtain ⟨qa, qc, hq, _⟩ := X6.it.1.d.shape
  subst hq
  exact ⟨g6, qa, _, qc, L6, own6, rfl, ⟨X6.it.2.1⟩, ⟨h.it.og.sn X6.it.2.2 (by decide), X6.it.1, h.it.bc.sn X6.it.2.2 (by decide), h.it.o⟩⟩
theorem pn_step (h : Aside (Pn A w own W p g L v wb g v b q kd c l d hh nb)) (hw : (⟨c, l, d⟩ : Pl).Wide) (hz : Zw hh) (hg : g < 2147483648) : Calls Tryd.prog 10 #[ptr p, .agg #[.int .i64 g, v], .agg #[.int .i64 kd, .int .i64 c, .int .i64 l, .int .u32 (d : Nat), .int .i64 hh]] W fun e w' => ∃ (g6 : Nat) (qa : Option Addr) (ql qc : Nat) (L6 : Hl) (own6 : Nat → Nat), e = .returned (.tuple #[.agg #[.int .i64 g6, .slice qa ql qc], .bool true]) ∧ Aside (g6 ≤ g + 1) ∧ Aside (Pn A w own6 w' p g6 L6 (.slice qa ql qc) wb g v b q kd c l d hh nb) := by
  refine (step22 own W h.it.z.og h.it.z.t kd ⟨c, l, d⟩ hh hw hz (by decide) hg).mono ?_
  rintro e w' ⟨g6, v6, L6, own6, rfl, X6⟩
  obtain ⟨qa, qc, hq, _⟩ := X6.it.1.d.shape
  subst hq
  obtain ⟨r0, r1, hn⟩ := h.it.n
  exact ⟨g6, qa, _, qc, L6, own6, rfl, ⟨X6.it.2.1⟩, ⟨⟨h.it.z.og.sn X6.it.2.2 (by decide), X6.it.1, h.it.z.bc.sn X6.it.2.2 (by decide), h.it.z.o⟩, r0, r1, hn.sn X6.it.2.2 (by decide)⟩⟩
/-- behind the round's call: the next one in its box -/
def Nx22 (A : Nat → Addr) (w : World) (p wb nb g0 g2 : Nat) (v2 : Value) (W : World) : Prop := g2 ≤ g0 + 1 ∧ (W.cell? ⟨nb, 0, none⟩ = some (.int .i64 g2) ∧ W.cell? ⟨nb, 1, none⟩ = some v2) ∧ ∃ own L v b q kd c l d hh, Pz A w own W p g2 L v2 wb g0 v b q kd c l d hh
theorem Pz.made (h : Aside (Pz A w own W p g L vt wb g0 v b q kd c l d hh)) (hg : Aside (g ≤ g0 + 1)) : Nx22 A w p wb W.heap.size g0 g vt (W.alloc (.cells #[.int .i64 g, vt] 28)) := by
  have e := Cells.new W 28 [.int .i64 g, vt]
  exact ⟨hg.it, ⟨by rw [e.cell]; rfl, by rw [e.cell]; rfl⟩, own, L, v, b, q, kd, c, l, d, hh, h.it.quiet ((Keeps.refl _ _).alloc _)⟩
theorem Pn.made (h : Aside (Pn A w own W p g L vt wb g0 v b q kd c l d hh nb)) (hg : Aside (g ≤ g0 + 1)) : Nx22 A w p wb nb g0 g vt ((W.setCell ⟨nb, 0, none⟩ (.int .i64 g)).setCell ⟨nb, 1, none⟩ vt) := by
  obtain ⟨r0, r1, hn⟩ := h.it.n
  have e := (hn.1.setCell 0 (.int .i64 g)).setCell 1 vt
  exact ⟨hg.it, ⟨by rw [e.cell]; rfl, by rw [e.cell]; rfl⟩, own, L, v, b, q, kd, c, l, d, hh, h.it.write _ _⟩

set_option maxRecDepth 20000 in
set_option maxHeartbeats 4000000 in
theorem handlesPlays_walkU {A : Nat → Addr} (s : Value) (zs : List OpV22) (w : World) (hs : Sents 113 codeVars A w) (hz : Ops22ArgU w s zs) :
    Calls Tryd.prog 3 #[s] w fun e w' => e = .returned (.bool true) ∧ Below w.heap.size w w' := by
  obtain ⟨hz, hzN⟩ := hz
  have HZ := Aside.mk hz
  obtain ⟨a, c, rfl, hzc, hcm, _⟩ := hz
  obtain ⟨N, hN⟩ : ∃ N, zs.length = N := ⟨_, rfl⟩
  have HN := Aside.mk hN
  rw [hN] at hzc hzN ⊢
  have WK := Aside.mk (wakes22 hs)
  have HS := Aside.mk hs
  have hNm : (N : Int) ≤ 1048576 := by omega
  clear hs hN
  go_enter Tryd.func3, Tryd.ntmps3
  go_upto_region 3 with (go_at_call 8; refine WK.it.mono ?_; rintro e w1 ⟨rfl, K1⟩)
  clear WK
  have S1 := Aside.mk (HS.it.later K1.it.bel)
  have NW := Aside.mk (new_at w1 (fun _ => 0) 1)
  go_upto_region 4 with (go_at_call 9; refine NW.it.mono ?_; rintro e w2 ⟨p, own2, rfl, X2⟩)
  have G2 := Aside.mk ((OnG.start S1.it).sn X2.it.2.2 (fun x => x))
  have K3 := Aside.mk ((Keeps.refl Nowhere w2).alloc (.cells #[.int .i64 0, .slice none 0 0] 28))
  have P3 : Aside (Pw A w1 (give own2 w2.heap.size 8) (w2.alloc (.cells #[.int .i64 0, .slice none 0 0] 28)) p 0 [] (.slice none 0 0) w2.heap.size) := ⟨⟨G2.it.sn (I := fun _ => False) (Sn.quiet K3.it 8) (fun x => x), ⟨X2.it.1.sn (I := fun _ => False) (Sn.quiet K3.it 8) (fun x => x), RdH.nil _ _⟩, ⟨Cells.new w2 _ _, give_new (Nat.le_refl _)⟩⟩⟩
  generalize give own2 w2.heap.size 8 = own3 at P3
  clear X2 NW G2 K3
  go_upto_region 6 with fail
  generalize w2.alloc (.cells #[.int .i64 0, .slice none 0 0] 28) = W3 at P3 ⊢
  generalize w2.heap.size = wb at P3 ⊢
  go_loopw [5, 6, 7] (fun v _ _ wr => ∃ (j g : Nat) (L : Hl) (vv : Value) (own : Nat → Nat), v = .int .i64 j ∧ j ≤ N ∧ g ≤ j ∧ Aside (Pw A w1 own wr p g L vv wb)) (fun v _ _ _ => N - natOf22 v)
  case atStart => exact ⟨0, 0, [], _, own3, rfl, Nat.zero_le _, Nat.le_refl _, P3⟩
  case round =>
    clear P3
    obtain ⟨j, g, L, vv, own, rfl, hj, hgj, P⟩ := hrel
    obtain ⟨va, vc, hvv, hvl⟩ := P.it.t.d.shape
    subst hvv
    obtain ⟨nl, hnl⟩ : ∃ nl, L.length = nl := ⟨_, rfl⟩
    have HNL := Aside.mk hnl
    rw [hnl] at P hvl
    clear hnl
    have u0 : wr.cell? ⟨wb, 0, none⟩ = some (.int .i64 g) := by rw [P.it.c.1.cell]; rfl
    have u1 : wr.cell? ⟨wb, 1, none⟩ = some (.slice va nl vc) := by rw [P.it.c.1.cell]; rfl
    rcases Nat.eq_or_lt_of_le hj with rfl | hlt
    · have SM := Aside.mk (same22 P.it.t)
      go_wp2_with (go_at_call 11; refine SM.it.mono ?_; rintro e w9 ⟨rfl, K9⟩)
      go_ret
      exact ⟨rfl, ((K1.it.trans P.it.bel).trans K9.it).bel⟩
    · obtain ⟨z, hz⟩ : ∃ z, zs[j]? = some z := ⟨_, List.getElem?_eq_getElem (by rw [HN.it]; exact hlt)⟩
      obtain ⟨b, o, rfl, x0, x1, x2, x3, x4, hpw, hhw⟩ := op22_cells HZ.it hz
      obtain ⟨kd, ⟨xc, xl, xd⟩, hh⟩ := z
      simp only at x0 x1 x2 x3 x4 hpw hhw
      have OP : OpAt w b (o + j * 5) kd xc xl xd hh := ⟨World.block_lt_of_cell? w _ x0, x0, x1, x2, x3, x4⟩
      have Z0 : Aside (Pz A w1 own wr p g L (.slice va nl vc) wb g (.slice va nl vc) b (o + j * 5) kd xc xl xd hh) := ⟨⟨P.it.og, P.it.t, P.it.c, OP.later K1.it⟩⟩
      have Zd := Aside.mk (Z0.it.quiet (Keeps.refl _ _).drew)
      have KK : Keeps Nowhere wr ((wr.alloc (.cells #[.int .i64 0, .slice none 0 0] 28)).drew) := ((Keeps.refl _ _).alloc _).drew
      have Nd : Aside (Pn A w1 (give own wr.heap.size 7) ((wr.alloc (.cells #[.int .i64 0, .slice none 0 0] 28)).drew) p g L (.slice va nl vc) wb g (.slice va nl vc) b (o + j * 5) kd xc xl xd hh wr.heap.size) := ⟨⟨Z0.it.sn (I := fun _ => False) (Sn.quiet KK 7) (fun x => x) (fun x => x) (fun x => x) (fun x => x), _, _, ⟨(Cells.new wr _ [.int .i64 0, .slice none 0 0]).drew, give_new (Nat.le_refl _)⟩⟩⟩
      have hg31 : g < 2147483648 := by omega
      clear Z0 KK x0 x1 x2 x3 x4 OP P hz u0 u1
      go_upto_region 8 with fail
      go_cut [6, 7] from 19 to 28 (fun vn vo wx => ∃ (nb g2 : Nat) (qa : Option Addr) (ql qc : Nat), vn = ptr nb ∧ vo = .bool true ∧ Aside (Nx22 A w1 p wb nb g g2 (.slice qa ql qc) wx))
      case first =>
        go_region_held3 (fun w' => w'.cell? ⟨wb, 0, none⟩ = some (.int .i64 g) ∧ w'.cell? ⟨wb, 1, none⟩ = some (.slice va nl vc) ∧ w'.cell? ⟨b, o + j * 5, none⟩ = some (.int .i64 kd) ∧ w'.cell? ⟨b, o + j * 5 + 1, none⟩ = some (.int .i64 xc) ∧ w'.cell? ⟨b, o + j * 5 + 2, none⟩ = some (.int .i64 xl) ∧ w'.cell? ⟨b, o + j * 5 + 3, none⟩ = some (.int .u32 (xd : Nat)) ∧ w'.cell? ⟨b, o + j * 5 + 4, none⟩ = some (.int .i64 hh)) (first | with_reducible exact Pz.h (by with_reducible assumption) | with_reducible exact Pn.h (by with_reducible assumption) | with_reducible exact Pz.hA (by with_reducible assumption) | with_reducible exact Pn.hS (by with_reducible assumption)) (first
          | (go_at_call 10; with_reducible refine (pz_step (by with_reducible assumption) hpw hhw hg31).mono ?_; rintro e w6 ⟨g6, qa, ql, qc, L6, own6, rfl, B6, P6⟩)
          | (go_at_call 10; with_reducible refine (pn_step (by with_reducible assumption) hpw hhw hg31).mono ?_; rintro e w7 ⟨g6, qa, ql, qc, L6, own6, rfl, B6, P7⟩; obtain ⟨r0, r1, f0, f1, f2, f3⟩ := Pn.res P7)
          | fail)
        all_goals go_wp2_with fail
        all_goals go_meet
        all_goals first
          | exact ⟨_, g6, qa, ql, qc, rfl, rfl, ⟨Pz.made P6 B6⟩⟩
          | exact ⟨_, g6, qa, ql, qc, rfl, rfl, ⟨Pn.made P7 B6⟩⟩
      case rest =>
      obtain ⟨nb, g2, qa, ql, qc, rfl, rfl, NX⟩ := hcut
      obtain ⟨hg2, ⟨m0, m1⟩, own2, L2, v2, b2, q2, kd2, c2, l2, d2, hh2, ZZ⟩ := NX.it
      have PW : Aside (Pw A w1 own2 ((wc.setCell ⟨wb, 0, none⟩ (.int .i64 g2)).setCell ⟨wb, 1, none⟩ (.slice qa ql qc)) p g2 L2 (.slice qa ql qc) wb) := by
        have s8 : Sn (fun k => k = 8) own2 wc own2 ((wc.setCell ⟨wb, 0, none⟩ (.int .i64 g2)).setCell ⟨wb, 1, none⟩ (.slice qa ql qc)) := ⟨fun _ _ => rfl, ((Keeps.refl _ _).setCell _ _ (fun _ => ZZ.bc.2)).setCell _ _ (fun _ => ZZ.bc.2)⟩
        exact ⟨⟨ZZ.og.sn s8 (by decide), ZZ.t.sn s8 (by decide) (by decide), ⟨(ZZ.bc.1.setCell 0 (.int .i64 g2)).setCell 1 (.slice qa ql qc), ZZ.bc.2⟩⟩⟩
      have u0 : wc.cell? ⟨wb, 0, none⟩ = some (.int .i64 g) := by rw [ZZ.bc.1.cell]; rfl
      have u1 : wc.cell? ⟨wb, 1, none⟩ = some v2 := by rw [ZZ.bc.1.cell]; rfl
      have u2 := ZZ.bc.1.frozen 0
      have u3 := ZZ.bc.1.frozen 1
      have HG2 := Aside.mk (show g2 ≤ j + 1 by omega)
      clear ZZ NX hg2 Zd Nd
      go_wp2_with fail
      go_roundw
      case rel => exact ⟨j + 1, g2, L2, _, own2, by go_num, by omega, HG2.it, PW⟩
      case measure => simp [natOf22]; omega
end Go.Proofs.YtjloedcikcamkaaDoor
