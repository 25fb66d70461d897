/-
  package feed: letGo.
-/
import Derived.Test.YtjhjhmhhnifgmaaDoorFeedC
namespace Go.Proofs.YtjhjhmhhnifgmaaDoor
open Go.RowKit

/-- a row of bytes that is j's -/
def DataO (own : Nat → Nat) (j : Nat) (w : World) (v : Value) (ns : List Int) : Prop := w.ownsRow 0 5 1 v ns.length (bv ns) ∧ ∀ k, v.ownBlock = some k → own k = j
abbrev frmH (h : List Int) (d : Value) : Value := frm (dV h) (dT h) (dF h) (dS h) (dL h) d
section
variable {A : Nat → Addr} {own : Nat → Nat} {i j : Nat} {w w' : World} {p : Nat} {most : Int} {hs g : List Int}
theorem go_end {w3 : World} {q : Option Addr} {l c : Nat} (h : DecM own i w p most hs g) (ms : List Int) (K : Keeps Nowhere w w3) (o : w3.ownsRow 0 5 1 (.slice q l c) ms.length (bv ms)) (hn : ∀ b, (Value.slice q l c).ownBlock = some b → w.heap.size ≤ b) (r : Nat) (hr : w.heap.size ≤ r) (W : World)
    (hW : Keeps (fun k => k = r) (w3.setCell ⟨p, 1, none⟩ (.slice none 0 0)) W) (hrb : ∀ b, (Value.slice q l c).ownBlock = some b → b ≠ r) :
    Keeps (fun k => own k = i) w W ∧ DecM (give own w.heap.size j) i W p most [] g ∧ DataO (give own w.heap.size j) j W (.slice q l c) ms := by
  obtain ⟨hv, d, ho⟩ := h.d
  have hpl := h.lt
  have C3 := d.c.later K (fun x => x)
  have C4 : Cells (w3.setCell ⟨p, 1, none⟩ (.slice none 0 0)) p 55 (decL most (.slice none 0 0) (dV g) (dT g) (dF g) (dS g) (dL g) (.pointer none)) := C3.setCell 1 _
  have K4 : Keeps (fun k => own k = i) w (w3.setCell ⟨p, 1, none⟩ (.slice none 0 0)) := (Keeps.any K).setCell ⟨p, 1, none⟩ _ (fun _ => h.hp)
  have KW : Keeps (fun k => own k = i) w W := K4.next hW (fun k e hk => by omega)
  have Kp : Keeps (fun k => k = p) w3 (w3.setCell ⟨p, 1, none⟩ (.slice none 0 0)) := (Keeps.refl (fun k => k = p) w3).setCell ⟨p, 1, none⟩ _ (fun _ => rfl)
  refine ⟨KW, ⟨by rw [give_old hpl]; exact h.hp, ⟨.slice none 0 0, ⟨C4.later hW (by omega), World.ownsRow_nil _ _ _ _⟩, fun k hk => by simp [Value.ownBlock] at hk⟩, fun n hn => by simp at hn, h.g⟩, ?_, fun k hk => give_new (hn k hk)⟩
  refine owns_later (owns_later o Kp (fun b hb e => ?_)) hW (fun b hb e => hrb b hb e)
  have := hn b hb
  omega
abbrev zeroF : List Value := [.int .u8 0, .int .u8 0, .int .u16 0, .int .u32 0, .int .u32 0, .slice none 0 0]
abbrev frmL (h : List Int) (d : Value) : List Value := [.int .u8 (dV h), .int .u8 (dT h), .int .u16 (dF h), .int .u32 (dS h), .int .u32 (dL h), d]
/-- where letGo's frame and its result's room lie -/
structure GoAt (w X : World) (F : Nat) (g : List Int) (q : Option Addr) (l c : Nat) (ms : List Int) : Prop where
  k : Keeps Nowhere w X
  f : Cells X F 46 (frmL g (.slice q l c))
  r : Cells X w.heap.size 46 zeroF
  o : X.ownsRow 0 5 1 (.slice q l c) ms.length (bv ms)
  b : ∀ b, (Value.slice q l c).ownBlock = some b → w.heap.size < b
  hF : w.heap.size < F
theorem six_set {W : World} {F : Nat} {cs : List Value} {e : TypeId} (h : Cells W F e cs) (hc : cs.length = 6) (a0 a1 a2 a3 a4 a5 : Value) :
    Cells ((((((W.setCell ⟨F, 0, none⟩ a0).setCell ⟨F, 1, none⟩ a1).setCell ⟨F, 2, none⟩ a2).setCell ⟨F, 3, none⟩ a3).setCell ⟨F, 4, none⟩ a4).setCell ⟨F, 5, none⟩ a5) F e [a0, a1, a2, a3, a4, a5] ∧
    Keeps (fun k => k = F) W ((((((W.setCell ⟨F, 0, none⟩ a0).setCell ⟨F, 1, none⟩ a1).setCell ⟨F, 2, none⟩ a2).setCell ⟨F, 3, none⟩ a3).setCell ⟨F, 4, none⟩ a4).setCell ⟨F, 5, none⟩ a5) := by
  obtain ⟨x0, x1, x2, x3, x4, x5, rfl⟩ : ∃ x0 x1 x2 x3 x4 x5, cs = [x0, x1, x2, x3, x4, x5] := by
    match cs, hc with
    | [x0, x1, x2, x3, x4, x5], _ => exact ⟨x0, x1, x2, x3, x4, x5, rfl⟩
  refine ⟨(((((h.setCell 0 a0).setCell 1 a1).setCell 2 a2).setCell 3 a3).setCell 4 a4).setCell 5 a5, ?_⟩
  exact ((((((Keeps.refl (fun k => k = F) W).setCell ⟨F, 0, none⟩ a0 (fun _ => rfl)).setCell ⟨F, 1, none⟩ a1 (fun _ => rfl)).setCell ⟨F, 2, none⟩ a2 (fun _ => rfl)).setCell ⟨F, 3, none⟩ a3 (fun _ => rfl)).setCell ⟨F, 4, none⟩ a4 (fun _ => rfl)).setCell ⟨F, 5, none⟩ a5 (fun _ => rfl)
theorem goAt_of {W : World} {F : Nat} {q : Option Addr} {l c : Nat} {ms : List Int} (hF : w.heap.size < F) (K : Keeps Nowhere w W) (f : Cells W F 46 zeroF) (r : Cells W w.heap.size 46 zeroF) (o : W.ownsRow 0 5 1 (.slice q l c) ms.length (bv ms)) (b : ∀ b, (Value.slice q l c).ownBlock = some b → w.heap.size < b) (X : World)
    (hX : X = ((((((W.setCell ⟨F, 0, none⟩ (.int .u8 (dV g))).setCell ⟨F, 1, none⟩ (.int .u8 (dT g))).setCell ⟨F, 2, none⟩ (.int .u16 (dF g))).setCell ⟨F, 3, none⟩ (.int .u32 (dS g))).setCell ⟨F, 4, none⟩ (.int .u32 (dL g))).setCell ⟨F, 5, none⟩ (.slice q l c))) : GoAt w X F g q l c ms := by
  obtain ⟨c1, k1⟩ := six_set f rfl (.int .u8 (dV g)) (.int .u8 (dT g)) (.int .u16 (dF g)) (.int .u32 (dS g)) (.int .u32 (dL g)) (.slice q l c)
  rw [← hX] at c1 k1
  have N := owns_ne o f (by decide)
  exact ⟨K.next k1 (fun k e hk => by omega), c1, r.later k1 (by omega), owns_later o k1 (fun b hb e => N (e ▸ hb)), b, hF⟩
theorem goAt_new {W : World} {q : Option Addr} {l c : Nat} {ms : List Int} (K : Keeps Nowhere w W) (r : Cells W w.heap.size 46 zeroF) (o : W.ownsRow 0 5 1 (.slice q l c) ms.length (bv ms)) (b : ∀ b, (Value.slice q l c).ownBlock = some b → w.heap.size < b) (X : World)
    (hX : X = W.alloc (.cells (frmL g (.slice q l c)).toArray 46)) : GoAt w X W.heap.size g q l c ms := by
  have k1 : Keeps Nowhere W X := by rw [hX]; exact (Keeps.refl _ _).alloc _
  have f : Cells X W.heap.size 46 (frmL g (.slice q l c)) := by rw [hX]; exact Cells.new _ _ _
  exact ⟨K.next k1 (fun _ e _ => e.elim), f, r.later k1 (fun e => e), owns_later o k1 (fun _ _ e => e), b, r.lt⟩
theorem res_cells {W w2 : World} {q : Option Addr} {l c : Nat} (hk : Keeps Nowhere (w.alloc (.cells zeroF.toArray 46)) W) (k2 : Keeps (fun b => (Value.slice none 0 0).ownBlock = some b) W w2) (b2 : ∀ b, (Value.slice q l c).ownBlock = some b → (Value.slice none 0 0).ownBlock = some b ∨ W.heap.size ≤ b) :
    Cells w2 w.heap.size 46 zeroF ∧ ∀ b, (Value.slice q l c).ownBlock = some b → w.heap.size < b := by
  refine ⟨((Cells.new w 46 zeroF).later hk (fun e => e)).later k2 (fun e => by cases e), fun b hb => ?_⟩
  rcases b2 b hb with e | e
  · cases e
  · have := hk.size
    simp at this
    omega
theorem GoAt.tail {X : World} {F : Nat} {q : Option Addr} {l c : Nat} {ms : List Int} (h : GoAt w X F g q l c ms) (hp : p < w.heap.size) :
    Cells (X.setCell ⟨p, 1, none⟩ (.slice none 0 0)) F 46 (frmL g (.slice q l c)) ∧ Cells (X.setCell ⟨p, 1, none⟩ (.slice none 0 0)) w.heap.size 46 zeroF := by
  have := h.hF
  exact ⟨h.f.setOther ⟨p, 1, none⟩ _ (by show F ≠ p; omega), h.r.setOther ⟨p, 1, none⟩ _ (by show w.heap.size ≠ p; omega)⟩
theorem go_endF {P Q R F : Prop} (h : P ∧ Q ∧ R) (hf : F) : P ∧ Q ∧ R ∧ F := ⟨h.1, h.2.1, h.2.2, hf⟩
set_option maxHeartbeats 4000000 in
theorem letGo_m (h : DecM own i w p most hs g) (h12 : 12 ≤ hs.length) (hlen : hs.length ≤ 4294967400) :
    Calls Tryd.prog 20 #[dPtr p] w fun e w' => ∃ q l c, e = .returned (frmH g (.slice q l c)) ∧ Aside (Keeps (fun k => own k = i) w w' ∧ DecM (give own w.heap.size j) i w' p most [] g ∧ DataO (give own w.heap.size j) j w' (.slice q l c) (hs.drop 12) ∧ ∀ b, (Value.slice q l c).ownBlock = some b → w.heap.size ≤ b) := by
  have H := Aside.mk h
  obtain ⟨hv, d, ho⟩ := h.d
  have D := Aside.mk d
  obtain ⟨gb, L, c, rfl⟩ : ∃ gb L c, hv = .slice (some ⟨gb, 0, none⟩) L c := by
    rcases d.r.2 with ⟨_, e⟩ | ⟨gb, cap, cur, e, _⟩
    · omega
    · exact ⟨gb, _, cap, e⟩
  have hL : Aside (L = hs.length) := ⟨by obtain ⟨q', c', e⟩ := owns_val d.r; injection e⟩
  have hLc : Aside (L ≤ c) := by
    have h' : w.ownsRow 0 5 1 (.slice (some ⟨gb, 0, none⟩) L c) (bv hs).length (bv hs) := by rw [bv_length]; exact d.r
    have := (owns_reads h').1.len
    exact ⟨by omega⟩
  have RT : ∀ W, Keeps Nowhere w W → Rd W (.slice (if c = 12 then some ⟨gb, 0, none⟩ else some ⟨gb, 12, none⟩) (L - 12) (c - 12)) (hs.drop 12) := fun W hk => by
    have h' : OwnB 0 w (.slice (some ⟨gb, 0, none⟩) L c) hs := d.r
    have r0 : RdS Nowhere W (.slice (some ⟨gb, 0, none⟩) L c) hs := ⟨((h'.rd.1.later (Keeps.any (S := Nowhere) hk)).mono (fun k e _ => e.elim)), h'.rd.2⟩
    have := (r0.drop h12).rd
    simpa [Addr.add] using this
  have RT := Aside.mk RT
  have CA : Aside (∀ W, Keeps Nowhere w W → Cells W p 55 (decL most (.slice (some ⟨gb, 0, none⟩) L c) (dV g) (dT g) (dF g) (dS g) (dL g) (.pointer none))) := ⟨fun W hk => d.c.later hk (fun x => x)⟩
  have h12 := Aside.mk h12
  have hlen := Aside.mk hlen
  have DC : Aside (∀ W, Keeps Nowhere w W → W.cell? ⟨p, 1, none⟩ = some (.slice (some ⟨gb, 0, none⟩) L c) ∧ W.cell? ⟨p, 2, none⟩ = some (.int .u8 (dV g)) ∧ W.cell? ⟨p, 3, none⟩ = some (.int .u8 (dT g)) ∧ W.cell? ⟨p, 4, none⟩ = some (.int .u16 (dF g)) ∧ W.cell? ⟨p, 5, none⟩ = some (.int .u32 (dS g)) ∧ W.cell? ⟨p, 6, none⟩ = some (.int .u32 (dL g))) :=
    ⟨fun W hk => ⟨(CA.it W hk).cell 1, (CA.it W hk).cell 2, (CA.it W hk).cell 3, (CA.it W hk).cell 4, (CA.it W hk).cell 5, (CA.it W hk).cell 6⟩⟩
  have l12 : 12 ≤ L := by have := h12.it; have := hL.it; omega
  have c12 : 12 ≤ c := by have := hLc.it; omega
  have l12' : (12 : Int) ≤ (L : Int) := by omega
  have hlc' : (L : Int) ≤ (c : Int) := by have := hLc.it; omega
  have NB : Aside (([] : List Int).length + (hs.drop 12).length ≤ 140737488355328) := ⟨by have := hlen.it; simp; omega⟩
  clear h d ho
  by_cases hc : c = 12
  · subst hc
    have RT : Aside (∀ W, Keeps Nowhere w W → Rd W (.slice (some ⟨gb, 0, none⟩) (L - 12) 0) (hs.drop 12)) := ⟨fun W hk => by simpa using RT.it W hk⟩
    have KA : ∀ ob, Keeps Nowhere w (w.alloc ob) := fun ob => (Keeps.refl _ _).alloc ob
    have KB : ∀ ob ob', Keeps Nowhere w ((w.alloc ob).alloc ob') := fun ob ob' => ((Keeps.refl _ _).alloc ob).alloc ob'
    have a1 := fun ob => (DC.it _ (KA ob)).1
    have a2 := fun ob => (DC.it _ (KA ob)).2.1
    have a3 := fun ob => (DC.it _ (KA ob)).2.2.1
    have a4 := fun ob => (DC.it _ (KA ob)).2.2.2.1
    have a5 := fun ob => (DC.it _ (KA ob)).2.2.2.2.1
    have a6 := fun ob => (DC.it _ (KA ob)).2.2.2.2.2
    have b1 := fun ob ob' => (DC.it _ (KB ob ob')).1
    have b2 := fun ob ob' => (DC.it _ (KB ob ob')).2.1
    have b3 := fun ob ob' => (DC.it _ (KB ob ob')).2.2.1
    have b4 := fun ob ob' => (DC.it _ (KB ob ob')).2.2.2.1
    have b5 := fun ob ob' => (DC.it _ (KB ob ob')).2.2.2.2.1
    have b6 := fun ob ob' => (DC.it _ (KB ob ob')).2.2.2.2.2
    have KA := Aside.mk KA
    have KB := Aside.mk KB
    have FN : Aside (Cells ((w.alloc (fbox 0 0 0 0 0 (.slice none 0 0))).alloc (fbox 0 0 0 0 0 (.slice none 0 0))).drew (w.heap.size + 1) 46 zeroF) := by
      have := Cells.new (w.alloc (fbox 0 0 0 0 0 (.slice none 0 0))) 46 zeroF
      rw [show (w.alloc (fbox 0 0 0 0 0 (.slice none 0 0))).heap.size = w.heap.size + 1 by simp] at this
      exact ⟨this⟩
    go_enter Tryd.func20, Tryd.ntmps20
    go_wp2_with fail
    go_region_law (first
      | (refine step_appendO 13 rfl rfl (.const (.slice none 0 0)) (.tmp 12) rfl (.slice none 0 0) _ [] (hs.drop 12) (World.ownsRow_nil _ _ _ _) (RT.it _ (KA.it _).drew) NB.it rfl rfl ?_; intro q2 l2 c2 w2 o2 k2 b2; have K2 : Aside (Keeps Nowhere w w2) := ⟨(KA.it _).drew.next k2.it (fun _ e _ => by cases e)⟩; have RN := Aside.mk (res_cells (Keeps.refl _ _).drew k2.it b2.it); have D2 := DC.it _ K2.it; have e1 := D2.1; have e2 := D2.2.1; have e3 := D2.2.2.1; have e4 := D2.2.2.2.1; have e5 := D2.2.2.2.2.1; have e6 := D2.2.2.2.2.2; have D3 := fun ob => DC.it _ (K2.it.alloc ob); have g1 := fun ob => (D3 ob).1; have g2 := fun ob => (D3 ob).2.1; have g3 := fun ob => (D3 ob).2.2.1; have g4 := fun ob => (D3 ob).2.2.2.1; have g5 := fun ob => (D3 ob).2.2.2.2.1; have g6 := fun ob => (D3 ob).2.2.2.2.2; clear D2 D3)
      | (refine step_appendO 13 rfl rfl (.const (.slice none 0 0)) (.tmp 12) rfl (.slice none 0 0) _ [] (hs.drop 12) (World.ownsRow_nil _ _ _ _) (RT.it _ (KB.it _ _).drew) NB.it rfl rfl ?_; intro q2 l2 c2 w2 o2 k2 b2; have K2 : Aside (Keeps Nowhere w w2) := ⟨(KB.it _ _).drew.next k2.it (fun _ e _ => by cases e)⟩; have RN := Aside.mk (res_cells (((Keeps.refl _ _).alloc _).drew) k2.it b2.it); have D2 := DC.it _ K2.it; have e1 := D2.1; have e2 := D2.2.1; have e3 := D2.2.2.1; have e4 := D2.2.2.2.1; have e5 := D2.2.2.2.2.1; have e6 := D2.2.2.2.2.2; have D3 := fun ob => DC.it _ (K2.it.alloc ob); have g1 := fun ob => (D3 ob).1; have g2 := fun ob => (D3 ob).2.1; have g3 := fun ob => (D3 ob).2.2.1; have g4 := fun ob => (D3 ob).2.2.2.1; have g5 := fun ob => (D3 ob).2.2.2.2.1; have g6 := fun ob => (D3 ob).2.2.2.2.2; clear D2 D3; have FC : Aside (Cells w2 (w.heap.size + 1) 46 zeroF) := ⟨FN.it.later k2.it (fun e => by cases e)⟩; have x0 := FC.it.cell 0; have x1 := FC.it.cell 1; have x2 := FC.it.cell 2; have x3 := FC.it.cell 3; have x4 := FC.it.cell 4; have x5 := FC.it.cell 5; have y0 := FC.it.frozen 0; have y1 := FC.it.frozen 1; have y2 := FC.it.frozen 2; have y3 := FC.it.frozen 3; have y4 := FC.it.frozen 4; have y5 := FC.it.frozen 5))
    all_goals (clear a1 a2 a3 a4 a5 a6 b1 b2 b3 b4 b5 b6 e1 e2 e3 e4 e5 e6 g1 g2 g3 g4 g5 g6)
    all_goals (first
      | (generalize hX : ((((((w2.setCell ⟨w.heap.size + 1, 0, none⟩ (.int .u8 (dV g))).setCell ⟨w.heap.size + 1, 1, none⟩ (.int .u8 (dT g))).setCell ⟨w.heap.size + 1, 2, none⟩ (.int .u16 (dF g))).setCell ⟨w.heap.size + 1, 3, none⟩ (.int .u32 (dS g))).setCell ⟨w.heap.size + 1, 4, none⟩ (.int .u32 (dL g))).setCell ⟨w.heap.size + 1, 5, none⟩ (.slice q2 l2 c2)) = X
         have GA := Aside.mk (goAt_of (g := g) (F := w.heap.size + 1) (by omega) K2.it FC.it RN.it.1 o2.it RN.it.2 X hX.symm)
         clear hX x0 x1 x2 x3 x4 x5 y0 y1 y2 y3 y4 y5
         generalize w.heap.size + 1 = F at *)
      | (generalize hX : (w2.alloc (.cells (frmL g (.slice q2 l2 c2)).toArray 46)) = X
         have GA := Aside.mk (goAt_new (g := g) K2.it RN.it.1 o2.it RN.it.2 X hX.symm)
         clear hX
         generalize w2.heap.size = F at *))
    all_goals (
      have P1 := (CA.it X GA.it.k).cell 1
      have Z1 := (CA.it X GA.it.k).frozen 1
      simp at P1
      have T := Aside.mk (GA.it.tail H.it.lt)
      have t0 := T.it.1.cell 0
      have t1 := T.it.1.cell 1
      have t2 := T.it.1.cell 2
      have t3 := T.it.1.cell 3
      have t4 := T.it.1.cell 4
      have t5 := T.it.1.cell 5
      have u0 := T.it.2.cell 0
      have u1 := T.it.2.cell 1
      have u2 := T.it.2.cell 2
      have u3 := T.it.2.cell 3
      have u4 := T.it.2.cell 4
      have u5 := T.it.2.cell 5
      have v0 := T.it.2.frozen 0
      have v1 := T.it.2.frozen 1
      have v2 := T.it.2.frozen 2
      have v3 := T.it.2.frozen 3
      have v4 := T.it.2.frozen 4
      have v5 := T.it.2.frozen 5
      simp only [List.getElem?_cons_zero, List.getElem?_cons_succ] at t0 t1 t2 t3 t4 t5 u0 u1 u2 u3 u4 u5
      go_wp2_with fail
      have S6 := Aside.mk (six_set T.it.2 rfl (.int .u8 (dV g)) (.int .u8 (dT g)) (.int .u16 (dF g)) (.int .u32 (dS g)) (.int .u32 (dL g)) (.slice q2 l2 c2))
      generalize hZ : (((((((X.setCell ⟨p, 1, none⟩ (.slice none 0 0)).setCell ⟨w.heap.size, 0, none⟩ (.int .u8 (dV g))).setCell ⟨w.heap.size, 1, none⟩ (.int .u8 (dT g))).setCell ⟨w.heap.size, 2, none⟩ (.int .u16 (dF g))).setCell ⟨w.heap.size, 3, none⟩ (.int .u32 (dS g))).setCell ⟨w.heap.size, 4, none⟩ (.int .u32 (dL g))).setCell ⟨w.heap.size, 5, none⟩ (.slice q2 l2 c2)) = Z at *
      clear hZ
      have s0 := S6.it.1.cell 0
      have s1 := S6.it.1.cell 1
      have s2 := S6.it.1.cell 2
      have s3 := S6.it.1.cell 3
      have s4 := S6.it.1.cell 4
      have s5 := S6.it.1.cell 5
      simp only [List.getElem?_cons_zero, List.getElem?_cons_succ] at s0 s1 s2 s3 s4 s5
      refine bodyPost_ret (v := frmH g (.slice q2 l2 c2)) (by simp [results, Tryd.results20, go_sem, s0, s1, s2, s3, s4, s5]) rfl ?_
      exact ⟨q2, l2, c2, rfl, ⟨go_endF (go_end H.it _ GA.it.k GA.it.o (fun b hb => Nat.le_of_lt (GA.it.b b hb)) w.heap.size (Nat.le_refl _) Z S6.it.2 (fun b hb => Nat.ne_of_gt (GA.it.b b hb))) (fun b hb => Nat.le_of_lt (GA.it.b b hb))⟩⟩)
  · simp only [if_neg hc] at RT
    have KA : ∀ ob, Keeps Nowhere w (w.alloc ob) := fun ob => (Keeps.refl _ _).alloc ob
    have KB : ∀ ob ob', Keeps Nowhere w ((w.alloc ob).alloc ob') := fun ob ob' => ((Keeps.refl _ _).alloc ob).alloc ob'
    have a1 := fun ob => (DC.it _ (KA ob)).1
    have a2 := fun ob => (DC.it _ (KA ob)).2.1
    have a3 := fun ob => (DC.it _ (KA ob)).2.2.1
    have a4 := fun ob => (DC.it _ (KA ob)).2.2.2.1
    have a5 := fun ob => (DC.it _ (KA ob)).2.2.2.2.1
    have a6 := fun ob => (DC.it _ (KA ob)).2.2.2.2.2
    have b1 := fun ob ob' => (DC.it _ (KB ob ob')).1
    have b2 := fun ob ob' => (DC.it _ (KB ob ob')).2.1
    have b3 := fun ob ob' => (DC.it _ (KB ob ob')).2.2.1
    have b4 := fun ob ob' => (DC.it _ (KB ob ob')).2.2.2.1
    have b5 := fun ob ob' => (DC.it _ (KB ob ob')).2.2.2.2.1
    have b6 := fun ob ob' => (DC.it _ (KB ob ob')).2.2.2.2.2
    have KA := Aside.mk KA
    have KB := Aside.mk KB
    have FN : Aside (Cells ((w.alloc (fbox 0 0 0 0 0 (.slice none 0 0))).alloc (fbox 0 0 0 0 0 (.slice none 0 0))).drew (w.heap.size + 1) 46 zeroF) := by
      have := Cells.new (w.alloc (fbox 0 0 0 0 0 (.slice none 0 0))) 46 zeroF
      rw [show (w.alloc (fbox 0 0 0 0 0 (.slice none 0 0))).heap.size = w.heap.size + 1 by simp] at this
      exact ⟨this⟩
    go_enter Tryd.func20, Tryd.ntmps20
    go_wp2_with fail
    go_region_law (first
      | (refine step_appendO 13 rfl rfl (.const (.slice none 0 0)) (.tmp 12) rfl (.slice none 0 0) _ [] (hs.drop 12) (World.ownsRow_nil _ _ _ _) (RT.it _ (KA.it _).drew) NB.it rfl rfl ?_; intro q2 l2 c2 w2 o2 k2 b2; have K2 : Aside (Keeps Nowhere w w2) := ⟨(KA.it _).drew.next k2.it (fun _ e _ => by cases e)⟩; have RN := Aside.mk (res_cells (Keeps.refl _ _).drew k2.it b2.it); have D2 := DC.it _ K2.it; have e1 := D2.1; have e2 := D2.2.1; have e3 := D2.2.2.1; have e4 := D2.2.2.2.1; have e5 := D2.2.2.2.2.1; have e6 := D2.2.2.2.2.2; have D3 := fun ob => DC.it _ (K2.it.alloc ob); have g1 := fun ob => (D3 ob).1; have g2 := fun ob => (D3 ob).2.1; have g3 := fun ob => (D3 ob).2.2.1; have g4 := fun ob => (D3 ob).2.2.2.1; have g5 := fun ob => (D3 ob).2.2.2.2.1; have g6 := fun ob => (D3 ob).2.2.2.2.2; clear D2 D3)
      | (refine step_appendO 13 rfl rfl (.const (.slice none 0 0)) (.tmp 12) rfl (.slice none 0 0) _ [] (hs.drop 12) (World.ownsRow_nil _ _ _ _) (RT.it _ (KB.it _ _).drew) NB.it rfl rfl ?_; intro q2 l2 c2 w2 o2 k2 b2; have K2 : Aside (Keeps Nowhere w w2) := ⟨(KB.it _ _).drew.next k2.it (fun _ e _ => by cases e)⟩; have RN := Aside.mk (res_cells (((Keeps.refl _ _).alloc _).drew) k2.it b2.it); have D2 := DC.it _ K2.it; have e1 := D2.1; have e2 := D2.2.1; have e3 := D2.2.2.1; have e4 := D2.2.2.2.1; have e5 := D2.2.2.2.2.1; have e6 := D2.2.2.2.2.2; have D3 := fun ob => DC.it _ (K2.it.alloc ob); have g1 := fun ob => (D3 ob).1; have g2 := fun ob => (D3 ob).2.1; have g3 := fun ob => (D3 ob).2.2.1; have g4 := fun ob => (D3 ob).2.2.2.1; have g5 := fun ob => (D3 ob).2.2.2.2.1; have g6 := fun ob => (D3 ob).2.2.2.2.2; clear D2 D3; have FC : Aside (Cells w2 (w.heap.size + 1) 46 zeroF) := ⟨FN.it.later k2.it (fun e => by cases e)⟩; have x0 := FC.it.cell 0; have x1 := FC.it.cell 1; have x2 := FC.it.cell 2; have x3 := FC.it.cell 3; have x4 := FC.it.cell 4; have x5 := FC.it.cell 5; have y0 := FC.it.frozen 0; have y1 := FC.it.frozen 1; have y2 := FC.it.frozen 2; have y3 := FC.it.frozen 3; have y4 := FC.it.frozen 4; have y5 := FC.it.frozen 5))
    all_goals (clear a1 a2 a3 a4 a5 a6 b1 b2 b3 b4 b5 b6 e1 e2 e3 e4 e5 e6 g1 g2 g3 g4 g5 g6)
    all_goals (first
      | (generalize hX : ((((((w2.setCell ⟨w.heap.size + 1, 0, none⟩ (.int .u8 (dV g))).setCell ⟨w.heap.size + 1, 1, none⟩ (.int .u8 (dT g))).setCell ⟨w.heap.size + 1, 2, none⟩ (.int .u16 (dF g))).setCell ⟨w.heap.size + 1, 3, none⟩ (.int .u32 (dS g))).setCell ⟨w.heap.size + 1, 4, none⟩ (.int .u32 (dL g))).setCell ⟨w.heap.size + 1, 5, none⟩ (.slice q2 l2 c2)) = X
         have GA := Aside.mk (goAt_of (g := g) (F := w.heap.size + 1) (by omega) K2.it FC.it RN.it.1 o2.it RN.it.2 X hX.symm)
         clear hX x0 x1 x2 x3 x4 x5 y0 y1 y2 y3 y4 y5
         generalize w.heap.size + 1 = F at *)
      | (generalize hX : (w2.alloc (.cells (frmL g (.slice q2 l2 c2)).toArray 46)) = X
         have GA := Aside.mk (goAt_new (g := g) K2.it RN.it.1 o2.it RN.it.2 X hX.symm)
         clear hX
         generalize w2.heap.size = F at *))
    all_goals (
      have P1 := (CA.it X GA.it.k).cell 1
      have Z1 := (CA.it X GA.it.k).frozen 1
      simp at P1
      have T := Aside.mk (GA.it.tail H.it.lt)
      have t0 := T.it.1.cell 0
      have t1 := T.it.1.cell 1
      have t2 := T.it.1.cell 2
      have t3 := T.it.1.cell 3
      have t4 := T.it.1.cell 4
      have t5 := T.it.1.cell 5
      have u0 := T.it.2.cell 0
      have u1 := T.it.2.cell 1
      have u2 := T.it.2.cell 2
      have u3 := T.it.2.cell 3
      have u4 := T.it.2.cell 4
      have u5 := T.it.2.cell 5
      have v0 := T.it.2.frozen 0
      have v1 := T.it.2.frozen 1
      have v2 := T.it.2.frozen 2
      have v3 := T.it.2.frozen 3
      have v4 := T.it.2.frozen 4
      have v5 := T.it.2.frozen 5
      simp only [List.getElem?_cons_zero, List.getElem?_cons_succ] at t0 t1 t2 t3 t4 t5 u0 u1 u2 u3 u4 u5
      go_wp2_with fail
      have S6 := Aside.mk (six_set T.it.2 rfl (.int .u8 (dV g)) (.int .u8 (dT g)) (.int .u16 (dF g)) (.int .u32 (dS g)) (.int .u32 (dL g)) (.slice q2 l2 c2))
      generalize hZ : (((((((X.setCell ⟨p, 1, none⟩ (.slice none 0 0)).setCell ⟨w.heap.size, 0, none⟩ (.int .u8 (dV g))).setCell ⟨w.heap.size, 1, none⟩ (.int .u8 (dT g))).setCell ⟨w.heap.size, 2, none⟩ (.int .u16 (dF g))).setCell ⟨w.heap.size, 3, none⟩ (.int .u32 (dS g))).setCell ⟨w.heap.size, 4, none⟩ (.int .u32 (dL g))).setCell ⟨w.heap.size, 5, none⟩ (.slice q2 l2 c2)) = Z at *
      clear hZ
      have s0 := S6.it.1.cell 0
      have s1 := S6.it.1.cell 1
      have s2 := S6.it.1.cell 2
      have s3 := S6.it.1.cell 3
      have s4 := S6.it.1.cell 4
      have s5 := S6.it.1.cell 5
      simp only [List.getElem?_cons_zero, List.getElem?_cons_succ] at s0 s1 s2 s3 s4 s5
      refine bodyPost_ret (v := frmH g (.slice q2 l2 c2)) (by simp [results, Tryd.results20, go_sem, s0, s1, s2, s3, s4, s5]) rfl ?_
      exact ⟨q2, l2, c2, rfl, ⟨go_endF (go_end H.it _ GA.it.k GA.it.o (fun b hb => Nat.le_of_lt (GA.it.b b hb)) w.heap.size (Nat.le_refl _) Z S6.it.2 (fun b hb => Nat.ne_of_gt (GA.it.b b hb))) (fun b hb => Nat.le_of_lt (GA.it.b b hb))⟩⟩)
end
end Go.Proofs.YtjhjhmhhnifgmaaDoor
