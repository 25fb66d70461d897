/-
  package feed: judge.
-/
import Derived.Test.YtjhjhmhhnifgmaaDoorFeedB
namespace Go.Proofs.YtjhjhmhhnifgmaaDoor
open Go.RowKit

/-- the number that Check gives the header that twelve bytes write -/
def chkH (most : Int) (h : List Int) : Int := chk (dV h) (dT h) (dF h) (dS h) (dL h) most
def ckH (most : Int) (h : List Int) : Bool := decide (chkH most h = 0)
def szN (h : List Int) : Nat := (szH (dT h) (dL h)).toNat
theorem dT_bounds {ns : List Int} (hb : AreBytes ns) : 0 ≤ dT ns ∧ dT ns ≤ 255 := by
  unfold dT
  split
  · omega
  · exact getD_byte hb 1
theorem szH_nat {h : List Int} (hb : AreBytes h) : szH (dT h) (dL h) = (szN h : Int) := by
  have := dL_bounds hb
  unfold szN szH
  split <;> omega

/-- a violation by the header h, in block vb, that is j's -/
def VioAt (A : Nat → Addr) (own : Nat → Nat) (j : Nat) (w : World) (most : Int) (h : List Int) (vb : Nat) : Prop :=
  own vb = j ∧ ∃ k : Nat, k < 42 ∧ k ≠ 27 ∧ chkH most h = (k : Int) + 1 ∧ Cells w vb 68 [.int .u32 (dS h), .iface 116 (.pointer (some (A k)))]
/-- a decoder that died of the header h -/
structure DeadM (A : Nat → Addr) (own : Nat → Nat) (i j : Nat) (w : World) (p : Nat) (most : Int) (h : List Int) : Prop where
  hp : own p = i
  d : ∃ vb g, Cells w p 55 (decL most (.slice none 0 0) (dV g) (dT g) (dF g) (dS g) (dL g) (dPtr vb)) ∧ VioAt A own j w most h vb

/-- what lies below: the sentinels, the table, the handle of 'error', as they were -/
structure Base (A : Nat → Addr) (w0 : World) : Prop where
  s : Sents 116 codeVars A w0
  l : Lawful w0
  e : ErrTy w0
structure Gr (A : Nat → Addr) (w0 : World) (own : Nat → Nat) (w : World) : Prop where
  b : Base A w0
  g : Ground w0.heap.size w0 own w
theorem Base.later {A : Nat → Addr} {w0 w : World} (h : Base A w0) (hb : Below w0.heap.size w0 w) : Base A w := ⟨h.s.later hb, h.l.later hb, h.e.later hb⟩
theorem Gr.here {A : Nat → Addr} {w0 w : World} {own : Nat → Nat} (h : Gr A w0 own w) : Base A w := h.b.later h.g.bel
theorem Gr.step {A : Nat → Addr} {w0 w w' : World} {own own' : Nat → Nat} {i : Nat} (h : Gr A w0 own w) (hk : Keeps (fun k => own k = i) w w') (hi : i ≠ 0) (he : ∀ k, k < w.heap.size → own' k = own k) : Gr A w0 own' w' := by
  refine ⟨h.b, fun k hlt => ?_, ?_, Nat.le_trans h.g.size hk.size⟩
  · rw [he k (by have := h.g.size; omega)]; exact h.g.zero k hlt
  · refine below_next h.g.bel hk h.g.size (fun k e _ => ?_)
    rcases Nat.lt_or_ge k w0.heap.size with hlt | hge
    · have := h.g.zero k hlt; omega
    · exact hge
theorem Gr.quiet {A : Nat → Addr} {w0 w w' : World} {own : Nat → Nat} (h : Gr A w0 own w) (hk : Keeps Nowhere w w') : Gr A w0 own w' := ⟨h.b, h.g.quiet hk⟩
theorem Gr.ext {A : Nat → Addr} {w0 w : World} {own own' : Nat → Nat} (h : Gr A w0 own w) (he : ∀ k, k < w.heap.size → own' k = own k) : Gr A w0 own' w :=
  ⟨h.b, fun k hlt => by rw [he k (by have := h.g.size; omega)]; exact h.g.zero k hlt, h.g.bel, h.g.size⟩

/-- the sentinels, the table and a decoder's cells -/
structure JAt (A : Nat → Addr) (p : Nat) (cs : List Value) (w : World) : Prop where
  s : Sents 116 codeVars A w
  l : Lawful w
  c : Cells w p 55 cs
theorem JAt.quiet {A : Nat → Addr} {p : Nat} {cs : List Value} {w w' : World} (h : JAt A p cs w) (hk : Keeps Nowhere w w') : JAt A p cs w' := ⟨h.s.later hk.bel, h.l.later hk.bel, h.c.later hk (fun x => x)⟩
section
variable {A : Nat → Addr} {own : Nat → Nat} {i : Nat} {w w' : World} {p : Nat} {most : Int} {hs g : List Int}
theorem JAt.cells {hv dp : Value} {v t f s l : Int} (h : Aside (JAt A p (decL most hv v t f s l dp) w)) :
    w.cell? ⟨p, 0, none⟩ = some (.int .i64 most) ∧ w.cell? ⟨p, 1, none⟩ = some hv ∧ w.cell? ⟨p, 2, none⟩ = some (.int .u8 v) ∧ w.cell? ⟨p, 3, none⟩ = some (.int .u8 t) ∧ w.cell? ⟨p, 4, none⟩ = some (.int .u16 f) ∧ w.cell? ⟨p, 5, none⟩ = some (.int .u32 s) ∧ w.cell? ⟨p, 6, none⟩ = some (.int .u32 l) ∧ w.cell? ⟨p, 7, none⟩ = some dp :=
  ⟨h.it.c.cell 0, h.it.c.cell 1, h.it.c.cell 2, h.it.c.cell 3, h.it.c.cell 4, h.it.c.cell 5, h.it.c.cell 6, h.it.c.cell 7⟩
theorem check_j {hv dp : Value} {v t f s l : Int} (ht0 : 0 ≤ t) (ht1 : t ≤ 255) (hf : 0 ≤ f) (hl0 : 0 ≤ l) (hl1 : l ≤ 4294967295) (W : World) (h : Aside (JAt A p (decL most hv v t f s l dp) W)) :
    Calls Tryd.prog 28 #[hdr v t f s l, .int .i64 most] W fun e w' => ∃ ev, e = .returned ev ∧ Aside (Coded A ev (chk v t f s l most)) ∧ Aside (JAt A p (decL most hv v t f s l dp) w') ∧ Aside (Keeps Nowhere W w') :=
  (check_any v t f s l most W h.it.s h.it.l ht0 ht1 hf hl0 hl1).mono (by rintro e w' ⟨⟨ev, rfl, hv⟩, hb⟩; exact ⟨ev, rfl, ⟨hv⟩, ⟨h.it.quiet (Keeps.ofBelow hb)⟩, ⟨Keeps.ofBelow hb⟩⟩)

theorem head_set {hv dp : Value} {v t f s l : Int} (C : Cells w p 55 (decL most hv v t f s l dp)) (O : w.ownsRow 0 5 1 hv hs.length (bv hs)) (v' t' f' s' l' : Int) (W : World)
    (hW : W = (((((w.setCell ⟨p, 2, none⟩ (.int .u8 v')).setCell ⟨p, 3, none⟩ (.int .u8 t')).setCell ⟨p, 4, none⟩ (.int .u16 f')).setCell ⟨p, 5, none⟩ (.int .u32 s')).setCell ⟨p, 6, none⟩ (.int .u32 l'))) :
    Cells W p 55 (decL most hv v' t' f' s' l' dp) ∧ W.ownsRow 0 5 1 hv hs.length (bv hs) ∧ Keeps (fun k => k = p) w W := by
  have N := owns_ne O C (by decide)
  have Kp : Keeps (fun k => k = p) w W := by
    rw [hW]
    exact (((((Keeps.refl (fun k => k = p) w).setCell ⟨p, 2, none⟩ (.int .u8 v') (fun _ => rfl)).setCell ⟨p, 3, none⟩ (.int .u8 t') (fun _ => rfl)).setCell ⟨p, 4, none⟩ (.int .u16 f') (fun _ => rfl)).setCell ⟨p, 5, none⟩ (.int .u32 s') (fun _ => rfl)).setCell ⟨p, 6, none⟩ (.int .u32 l') (fun _ => rfl)
  refine ⟨?_, owns_later O Kp (fun b hb e => N (e ▸ hb)), Kp⟩
  rw [hW]
  exact ((((C.setCell 2 (.int .u8 v')).setCell 3 (.int .u8 t')).setCell 4 (.int .u16 f')).setCell 5 (.int .u32 s')).setCell 6 (.int .u32 l')

theorem dead_end {w3 : World} {hv : Value} {k : Nat} (j : Nat) (hp : own p = i) (hpl : p < w.heap.size) (K : Keeps (fun k => own k = i) w w3) (C : Cells w3 p 55 (decL most hv (dV g) (dT g) (dF g) (dS g) (dL g) (.pointer none))) (hk : k < 42) (hk27 : k ≠ 27) (ek : chkH most hs = (k : Int) + 1) (W : World)
    (hW : W = ((w3.alloc (.cells #[.int .u32 (dS hs), .iface 116 (.pointer (some (A k)))] 68)).setCell ⟨p, 1, none⟩ (.slice none 0 0)).setCell ⟨p, 7, none⟩ (dPtr w3.heap.size)) :
    Keeps (fun k => own k = i) w W ∧ DeadM A (give own w.heap.size j) i j W p most hs := by
  have KA : Keeps (fun k => own k = i) w (w3.alloc (.cells #[.int .u32 (dS hs), .iface 116 (.pointer (some (A k)))] 68)) := K.alloc _
  have KW : Keeps (fun k => own k = i) w W := by
    rw [hW]
    exact (KA.setCell ⟨p, 1, none⟩ (.slice none 0 0) (fun _ => hp)).setCell ⟨p, 7, none⟩ (dPtr w3.heap.size) (fun _ => hp)
  have CA : Cells (w3.alloc (.cells #[.int .u32 (dS hs), .iface 116 (.pointer (some (A k)))] 68)) p 55 (decL most hv (dV g) (dT g) (dF g) (dS g) (dL g) (.pointer none)) := C.later ((Keeps.refl Nowhere w3).alloc _) (fun x => x)
  have VA : Cells (w3.alloc (.cells #[.int .u32 (dS hs), .iface 116 (.pointer (some (A k)))] 68)) w3.heap.size 68 [.int .u32 (dS hs), .iface 116 (.pointer (some (A k)))] := Cells.new w3 _ _
  have hne : w3.heap.size ≠ p := by have := C.lt; omega
  refine ⟨KW, ⟨by rw [give_old hpl]; exact hp, w3.heap.size, g, ?_, give_new K.size, k, hk, hk27, ek, ?_⟩⟩
  · rw [hW]
    exact (CA.setCell 1 (.slice none 0 0)).setCell 7 (dPtr w3.heap.size)
  · rw [hW]
    exact (VA.setOther ⟨p, 1, none⟩ (.slice none 0 0) hne).setOther ⟨p, 7, none⟩ (dPtr w3.heap.size) hne

set_option maxHeartbeats 4000000 in
theorem judge_m {w0 : World} (j : Nat) (G : Gr A w0 own w) (hi : i ≠ 0) (h : DecM own i w p most hs g) (hlen : hs.length = 12) :
    Calls Tryd.prog 19 #[dPtr p] w fun e w' => e = .returned (.bool (ckH most hs)) ∧ Aside (∃ own', (∀ k, k < w.heap.size → own' k = own k) ∧ Keeps (fun k => own k = i) w w' ∧
      ((ckH most hs = true ∧ DecM own' i w' p most hs hs) ∨ (ckH most hs = false ∧ DeadM A own' i j w' p most hs))) := by
  have GG := Aside.mk G
  have H := Aside.mk h
  obtain ⟨hv, d, ho⟩ := h.d
  have D := Aside.mk d
  have HO := Aside.mk ho
  have hb := h.b
  have hrd : Rd w hv hs := ((show OwnB 0 w hv hs from d.r)).rd
  have hDec := Aside.mk (decode_any hv hs w G.here.s hrd hb)
  have bT := dT_bounds hb
  have bF := dF_bounds hb
  have bL := dL_bounds hb
  have hCh := Aside.mk (fun W h => check_j (A := A) (p := p) (most := most) (hv := hv) (dp := .pointer none) (v := dV hs) (s := dS hs) bT.1 bT.2 bF.1 bL.1 bL.2 W h)
  obtain ⟨q, L, c, rfl⟩ : ∃ q L c, hv = .slice q L c := by obtain ⟨q, c, e⟩ := owns_val d.r; exact ⟨q, _, c, e⟩
  have c1 := d.c.cell 1
  simp at c1
  have hlen := Aside.mk hlen
  have hi := Aside.mk hi
  clear h d ho hb hrd bT bF bL G
  go_enter Tryd.func19, Tryd.ntmps19
  go_wp2_with (go_at_call 27; refine hDec.it.mono ?_; rintro e w1 ⟨ev, rfl, _, B1⟩; have K1 : Aside (Keeps Nowhere w w1) := ⟨Keeps.ofBelow B1⟩; have C1 := Aside.mk (D.it.c.later K1.it (fun x => x)); have f2 := (C1.it.spot 2 _ rfl).1; have f3 := (C1.it.spot 3 _ rfl).1; have f4 := (C1.it.spot 4 _ rfl).1; have f5 := (C1.it.spot 5 _ rfl).1; have f6 := (C1.it.spot 6 _ rfl).1; have z2 := C1.it.frozen 2; have z3 := C1.it.frozen 3; have z4 := C1.it.frozen 4; have z5 := C1.it.frozen 5; have z6 := C1.it.frozen 6; clear B1)
  clear f2 f3 f4 f5 f6 z2 z3 z4 z5 z6
  generalize hW2 : (((((w1.setCell ⟨p, 2, none⟩ (.int .u8 (dV hs))).setCell ⟨p, 3, none⟩ (.int .u8 (dT hs))).setCell ⟨p, 4, none⟩ (.int .u16 (dF hs))).setCell ⟨p, 5, none⟩ (.int .u32 (dS hs))).setCell ⟨p, 6, none⟩ (.int .u32 (dL hs))) = W2
  have X2 := head_set C1.it (owns_later D.it.r K1.it (fun _ _ x => x)) _ _ _ _ _ W2 hW2.symm
  have C2 := Aside.mk X2.1
  have O2 := Aside.mk X2.2.1
  have K2 : Aside (Keeps (fun k => own k = i) w W2) := ⟨(Keeps.any K1.it).next X2.2.2 (fun k e _ => e ▸ H.it.hp)⟩
  clear hW2 X2
  have J2 : Aside (JAt A p (decL most (.slice q L c) (dV hs) (dT hs) (dF hs) (dS hs) (dL hs) (.pointer none)) W2.drew) := by
    have B := (GG.it.step (own' := own) K2.it.drew hi.it (fun _ _ => rfl)).here
    exact ⟨B.s, B.l, C2.it⟩
  go_region_held_law (fun w' => w'.cell? ⟨p, 0, none⟩ = some (.int .i64 most) ∧ w'.cell? ⟨p, 1, none⟩ = some (.slice q L c) ∧ w'.cell? ⟨p, 2, none⟩ = some (.int .u8 (dV hs)) ∧ w'.cell? ⟨p, 3, none⟩ = some (.int .u8 (dT hs)) ∧ w'.cell? ⟨p, 4, none⟩ = some (.int .u16 (dF hs)) ∧ w'.cell? ⟨p, 5, none⟩ = some (.int .u32 (dS hs)) ∧ w'.cell? ⟨p, 6, none⟩ = some (.int .u32 (dL hs)) ∧ w'.cell? ⟨p, 7, none⟩ = some (.pointer none))
    (exact JAt.cells (by assumption))
    ((go_at_call 28; refine (hCh.it _ (by assumption)).mono ?_; rintro e w3 ⟨ev3, rfl, V3, J3, K3⟩))
  have K3' : Aside (Keeps (fun k => own k = i) w w3) := ⟨K2.it.drew.next K3.it (fun _ x _ => x.elim)⟩
  by_cases hz : chkH most hs = 0
  · have hck : Aside (ckH most hs = true) := ⟨decide_eq_true hz⟩
    obtain rfl : ev3 = .nilIface := by
      rcases V3.it with ⟨e, _⟩ | ⟨k, _, _, _, e⟩
      · exact e
      · have : chkH most hs = (k : Int) + 1 := e
        omega
    have E3 : Aside (∃ own', (∀ k, k < w.heap.size → own' k = own k) ∧ Keeps (fun k => own k = i) w w3 ∧ DecM own' i w3 p most hs hs) :=
      ⟨own, fun _ _ => rfl, K3'.it, ⟨H.it.hp, ⟨_, ⟨J3.it.c, owns_later O2.it (Keeps.any (K3.it)).undrew (fun _ _ x => x)⟩, HO.it⟩, H.it.b, H.it.b⟩⟩
    clear hz
    go_wp2_with fail
    go_ret
    rw [hck.it]
    obtain ⟨own', x1, x2, x3⟩ := E3.it
    exact ⟨rfl, ⟨own', x1, x2, .inl ⟨rfl, x3⟩⟩⟩
  · have hck : Aside (ckH most hs = false) := ⟨decide_eq_false hz⟩
    obtain ⟨k, hk, hk27, rfl, ek⟩ : ∃ k : Nat, k < 42 ∧ k ≠ 27 ∧ ev3 = .iface 116 (.pointer (some (A k))) ∧ chkH most hs = (k : Int) + 1 := by
      rcases V3.it with ⟨_, e⟩ | ⟨k, a, b, c', e⟩
      · exact absurd e hz
      · exact ⟨k, a, b, c', e⟩
    have KK := Aside.mk (And.intro hk (And.intro hk27 ek))
    have p5 := J3.it.c.cell 5
    have CA : ∀ ob, Cells (w3.alloc ob) p 55 _ := fun ob => J3.it.c.later ((Keeps.refl Nowhere w3).alloc ob) (fun x => x)
    have p1 := fun ob => (CA ob).cell 1
    have p7 := fun ob => (CA ob).cell 7
    have z1 := fun ob => (CA ob).frozen 1
    have z7 := fun ob => (CA ob).frozen 7
    clear CA
    simp at p5 p1 p7
    clear hz hk hk27 ek
    go_wp2_with fail
    go_ret
    rw [hck.it]
    obtain ⟨x1, x2⟩ := dead_end j H.it.hp H.it.lt K3'.it J3.it.c KK.it.1 KK.it.2.1 KK.it.2.2 _ rfl
    exact ⟨rfl, ⟨_, fun _ h => give_old h, x1, .inr ⟨rfl, x2⟩⟩⟩
end
end Go.Proofs.YtjhjhmhhnifgmaaDoor
