/-
  package feed: append onto what is held; take.
-/
import Derived.Test.YtjhjhmhhnifgmaaDoorFeedA
import Derived.Test.YtjhjhmhhnifgmaaDoorRdSeg
namespace Go.Proofs.YtjhjhmhhnifgmaaDoor
open Go.RowKit

/-- a decoder in the middle of things: it holds hs, and its header was read off g -/
structure DecM (own : Nat → Nat) (i : Nat) (w : World) (p : Nat) (most : Int) (hs g : List Int) : Prop where
  hp : own p = i
  d : ∃ hv, DecIn w p most hv hs (dV g) (dT g) (dF g) (dS g) (dL g) (.pointer none) ∧ ∀ k, hv.ownBlock = some k → own k = i
  b : AreBytes hs
  g : AreBytes g
section
variable {own : Nat → Nat} {i : Nat} {w w' : World} {p : Nat} {most : Int} {hs g : List Int}
theorem DecM.quiet (h : DecM own i w p most hs g) (hk : Keeps Nowhere w w') : DecM own i w' p most hs g := by
  obtain ⟨hp, ⟨hv, ⟨c, r⟩, ho⟩, hb, hg⟩ := h
  exact ⟨hp, ⟨hv, ⟨c.later hk (fun x => x), owns_later r hk (fun _ _ x => x)⟩, ho⟩, hb, hg⟩
theorem DecM.lt (h : DecM own i w p most hs g) : p < w.heap.size := by
  obtain ⟨_, ⟨_, ⟨c, _⟩, _⟩, _, _⟩ := h
  exact c.lt
theorem DecM.ext (h : DecM own i w p most hs g) (own' : Nat → Nat) (he : ∀ k, k < w.heap.size → own' k = own k) : DecM own' i w p most hs g := by
  have hl := h.lt
  obtain ⟨hp, ⟨hv, ⟨c, r⟩, ho⟩, hb, hg⟩ := h
  exact ⟨(he p hl).trans hp, ⟨hv, ⟨c, r⟩, fun k hk => (he k (owns_lt r k hk)).trans (ho k hk)⟩, hb, hg⟩
theorem wants_m (h : DecM own i w p most hs g) (hn : hs.length ≤ 4294967400) :
    Calls Tryd.prog 12 #[dPtr p] w fun e w' => e = .returned (.int .i64 (wantsI hs.length (dT g) (dL g))) ∧ Keeps Nowhere w w' := by
  obtain ⟨hp, ⟨hv, d, ho⟩, hb, hg⟩ := h
  exact wants_live d (dL_bounds hg).1 (dL_bounds hg).2 hn
theorem AreBytes.append {a b : List Int} (ha : AreBytes a) (hb : AreBytes b) : AreBytes (a ++ b) := fun n hn => (List.mem_append.1 hn).elim (ha n) (hb n)
theorem AreBytes.take {ns : List Int} (h : AreBytes ns) (k : Nat) : AreBytes (ns.take k) := fun n hn => h n (List.mem_of_mem_take hn)

/-- a cell that can be read and written -/
def Spot (w : World) (p j : Nat) (v : Value) : Prop := w.cell? ⟨p, j, none⟩ = some v ∧ w.frozen? ⟨p, j, none⟩ = false
theorem Cells.spot {w : World} {p : Nat} {e : TypeId} {xs : List Value} (h : Cells w p e xs) (j : Nat) (v : Value) (hv : xs[j]? = some v) : Spot w p j v := ⟨(h.cell j).trans hv, h.frozen j⟩

theorem take_end {hv : Value} {ms : List Int} {w1 w2 : World} {q2 : Option Addr} {l2 c2 : Nat} (h : DecM own i w p most hs g) (hm : AreBytes ms) (ho : ∀ k, hv.ownBlock = some k → own k = i) (K1 : Keeps Nowhere w w1)
    (D1 : DecIn w1 p most hv hs (dV g) (dT g) (dF g) (dS g) (dL g) (.pointer none)) (o2 : w2.ownsRow 0 5 1 (.slice q2 l2 c2) (hs ++ ms).length (bv (hs ++ ms))) (k2 : Keeps (fun b => hv.ownBlock = some b) w1 w2)
    (b2 : ∀ b, (Value.slice q2 l2 c2).ownBlock = some b → hv.ownBlock = some b ∨ w1.heap.size ≤ b) :
    DecM (give own w.heap.size i) i (w2.setCell ⟨p, 1, none⟩ (.slice q2 l2 c2)) p most (hs ++ ms) g ∧ Keeps (fun k => own k = i) w (w2.setCell ⟨p, 1, none⟩ (.slice q2 l2 c2)) := by
  have C2 := D1.c.later k2 (owns_ne D1.r D1.c (by decide))
  have N2 := owns_ne o2 C2 (by decide)
  have KK : Keeps (fun k => own k = i) w w2 := (Keeps.any K1).next k2 (fun k e _ => ho k e)
  have K3 : Keeps (fun k => own k = i) w (w2.setCell ⟨p, 1, none⟩ (.slice q2 l2 c2)) := KK.setCell _ _ (fun _ => h.hp)
  refine ⟨⟨?_, ⟨.slice q2 l2 c2, ⟨C2.setCell 1 _, ?_⟩, fun k hk => ?_⟩, h.b.append hm, h.g⟩, K3⟩
  · rw [give_old h.lt]; exact h.hp
  · refine owns_later o2 (((Keeps.refl (fun k => k = p) w2).setCell ⟨p, 1, none⟩ _ (fun _ => rfl))) (fun b hb e => N2 (e ▸ hb))
  · rcases b2 k hk with e | e
    · have : k < w.heap.size ∨ w.heap.size ≤ k := by omega
      rcases this with hl | hl
      · rw [give_old hl]; exact ho k e
      · exact give_new hl
    · exact give_new (Nat.le_trans K1.size e)
set_option maxHeartbeats 4000000 in
theorem take_m {S : Nat → Prop} (h : DecM own i w p most hs g) (x : Value) (bs : List Int) (hr : RdS S w x bs) (hSi : ∀ k, own k = i → S k) (hbb : AreBytes bs) (n : Nat) (hmin : min (bs.length : Int) (wantsI hs.length (dT g) (dL g)) = n) (hhs : hs.length ≤ 4294967400) (hbs : bs.length ≤ 140737488351232) :
    Calls Tryd.prog 18 #[dPtr p, x] w fun e w' => ∃ y own', e = .returned y ∧ Aside ((∀ k, k < w.heap.size → own' k = own k) ∧ RdS (fun k => S k ∨ w.heap.size ≤ k) w' y (bs.drop n) ∧ DecM own' i w' p most (hs ++ bs.take n) g ∧ Keeps (fun k => own k = i) w w') := by
  have hn : n ≤ bs.length := by omega
  have hW := Aside.mk (wants_m h hhs)
  have H := Aside.mk h
  have R := Aside.mk hr
  have HSi := Aside.mk hSi
  obtain ⟨q, c, rfl, hlc⟩ := hr.shape
  obtain ⟨hv, d, ho⟩ := h.d
  have D := Aside.mk d
  have HO := Aside.mk ho
  have RT : ∀ W, Keeps Nowhere w W → Rd W (.slice q n c) (bs.take n) := fun W hk => by
    refine ⟨?_, ?_⟩
    · have h1 := (hr.rd.1.later (Keeps.any hk)).mono (S' := Nowhere) (fun _ x _ => x.elim)
      rw [bv_take]
      exact h1.slice n (by rw [bv_length]; exact hn)
    · intro l c' e
      injection e with e1 e2 e3
      exact e3 ▸ hr.2 bs.length c (by rw [e1])
  have RT := Aside.mk RT
  have HB := Aside.mk hbb
  have HH := Aside.mk hhs
  have HS := Aside.mk hbs
  have hnc : n ≤ c := by omega
  have hwb : wantsI hs.length (dT g) (dL g) ≤ 4294967400 := by
    have := dL_bounds H.it.g
    unfold wantsI szH
    split
    · omega
    · split <;> omega
  have HW : Aside (hs.length + (bs.take n).length ≤ 140737488355328) := ⟨by simp; omega⟩
  generalize wantsI hs.length (dT g) (dL g) = m at *
  have hor : ((n = bs.length) ∧ (bs.length : Int) ≤ m) ∨ (m = n ∧ n < bs.length) := by omega
  obtain ⟨L, hL⟩ : ∃ L, Aside (bs.length = L) := ⟨_, ⟨rfl⟩⟩
  rw [hL.it] at hor hn hlc ⊢
  clear h hr hSi d ho hbb hhs hbs hmin hwb
  have YY : ∀ W, Keeps (fun k => own k = i) w W → RdS (fun k => S k ∨ w.heap.size ≤ k) W (.slice (if c = n then q else q.map (·.add n)) (L - n) (c - n)) (bs.drop n) := fun W hk => (hL.it ▸ R.it.later (hk.mono (fun k e _ => HSi.it k e))).drop (by rw [hL.it]; exact hn)
  rcases hor with ⟨rfl, hm⟩ | ⟨rfl, hm⟩
  · by_cases hcn : n = c
    · subst hcn
      simp only [if_true, Nat.sub_self] at YY
      have YY := Aside.mk YY
      go_enter Tryd.func18, Tryd.ntmps18
      go_wp2_with (go_at_call 12; refine hW.it.mono ?_; rintro e w1 ⟨rfl, K1⟩; have K1 := Aside.mk K1)
      have K1 := Aside.mk K1.it.drew
      have D1 := Aside.mk (D.it.quiet K1.it)
      have P1 : Aside (Spot w1.drew p 1 hv) := ⟨D1.it.c.spot 1 hv rfl⟩
      have s1a := P1.it.1
      have s1b := P1.it.2
      go_region_law
        ((refine step_appendO 19 rfl rfl (.tmp 15) (.tmp 18) rfl hv _ hs (bs.take n) D1.it.r (RT.it _ K1.it) HW.it rfl rfl ?_; intro q2 l2 c2 w2 o2 k2 b2; have C2 : Aside (Cells w2 p 55 _) := ⟨D1.it.c.later k2.it (owns_ne D1.it.r D1.it.c (by decide))⟩; have P2 : Aside (Spot w2 p 1 hv) := ⟨C2.it.spot 1 hv rfl⟩; have s2a := P2.it.1; have s2b := P2.it.2))
      go_wp2_with fail
      go_ret
      obtain ⟨f1, f2⟩ := take_end H.it (HB.it.take n) HO.it K1.it D1.it o2.it k2.it b2.it
      exact ⟨_, _, rfl, ⟨fun k hk => give_old hk, YY.it _ f2, f1, f2⟩⟩
    · have hcn : ¬ c = n := fun e => hcn e.symm
      simp only [if_neg hcn, Nat.sub_self] at YY
      have YY := Aside.mk YY
      go_enter Tryd.func18, Tryd.ntmps18
      go_wp2_with (go_at_call 12; refine hW.it.mono ?_; rintro e w1 ⟨rfl, K1⟩; have K1 := Aside.mk K1)
      have K1 := Aside.mk K1.it.drew
      have D1 := Aside.mk (D.it.quiet K1.it)
      have P1 : Aside (Spot w1.drew p 1 hv) := ⟨D1.it.c.spot 1 hv rfl⟩
      have s1a := P1.it.1
      have s1b := P1.it.2
      go_region_law
        ((refine step_appendO 19 rfl rfl (.tmp 15) (.tmp 18) rfl hv _ hs (bs.take n) D1.it.r (RT.it _ K1.it) HW.it rfl rfl ?_; intro q2 l2 c2 w2 o2 k2 b2; have C2 : Aside (Cells w2 p 55 _) := ⟨D1.it.c.later k2.it (owns_ne D1.it.r D1.it.c (by decide))⟩; have P2 : Aside (Spot w2 p 1 hv) := ⟨C2.it.spot 1 hv rfl⟩; have s2a := P2.it.1; have s2b := P2.it.2))
      go_wp2_with fail
      go_ret
      obtain ⟨f1, f2⟩ := take_end H.it (HB.it.take n) HO.it K1.it D1.it o2.it k2.it b2.it
      exact ⟨_, _, rfl, ⟨fun k hk => give_old hk, YY.it _ f2, f1, f2⟩⟩
  · have hcn : ¬ c = n := by omega
    simp only [if_neg hcn] at YY
    have YY := Aside.mk YY
    go_enter Tryd.func18, Tryd.ntmps18
    go_wp2_with (go_at_call 12; refine hW.it.mono ?_; rintro e w1 ⟨rfl, K1⟩; have K1 := Aside.mk K1)
    have K1 := Aside.mk K1.it.drew
    have D1 := Aside.mk (D.it.quiet K1.it)
    have P1 : Aside (Spot w1.drew p 1 hv) := ⟨D1.it.c.spot 1 hv rfl⟩
    have s1a := P1.it.1
    have s1b := P1.it.2
    go_region_law
      ((refine step_appendO 19 rfl rfl (.tmp 15) (.tmp 18) rfl hv _ hs (bs.take n) D1.it.r (RT.it _ K1.it) HW.it rfl rfl ?_; intro q2 l2 c2 w2 o2 k2 b2; have C2 : Aside (Cells w2 p 55 _) := ⟨D1.it.c.later k2.it (owns_ne D1.it.r D1.it.c (by decide))⟩; have P2 : Aside (Spot w2 p 1 hv) := ⟨C2.it.spot 1 hv rfl⟩; have s2a := P2.it.1; have s2b := P2.it.2))
    go_wp2_with fail
    go_ret
    obtain ⟨f1, f2⟩ := take_end H.it (HB.it.take n) HO.it K1.it D1.it o2.it k2.it b2.it
    exact ⟨_, _, rfl, ⟨fun k hk => give_old hk, YY.it _ f2, f1, f2⟩⟩
end
end Go.Proofs.YtjhjhmhhnifgmaaDoor
