/-
  culvertref27.Feed (written by gen_MsF.py out of FeedRef2, FeedRef3)
-/
import Derived.Test.YtnocalkloinbbaaDoorMsE
import Derived.Test.YtnocalkloinbbaaDoorRdOw
import Derived.Deep.RegionHeld3
namespace Go.Proofs.YtnocalkloinbbaaDoor
open Go.RowKit

theorem al_below (w : World) (o : Obj) : Below w.heap.size w (w.alloc o) := (Keeps.refl Nowhere w).alloc o |>.bel
section
variable {w : World} {F : List Int}
/-- d in its box, the result's box -/
structure Fm (w : World) (most : Int) (v : Value) (W : World) : Prop where
  bel : Below w.heap.size w W
  d : Cells W w.heap.size 31 [.int .i64 most, v]
  r : Cells W (w.heap.size + 1) 31 [.int .i64 0, .slice none 0 0]
theorem Fm.start (most : Int) (v : Value) : Fm w most v ((w.alloc (.cells #[.int .i64 most, v] 31)).alloc (.cells #[.int .i64 0, .slice none 0 0] 31)) := by
  refine ⟨(((Keeps.refl Nowhere w).alloc _).alloc _).bel, (Cells.new w 31 [.int .i64 most, v]).later (S := Nowhere) ((Keeps.refl _ _).alloc _) (fun x => x), ?_⟩
  have := Cells.new (w.alloc (.cells #[.int .i64 most, v] 31)) 31 [.int .i64 0, .slice none 0 0]
  rw [World.size_alloc] at this
  exact this
theorem Fm.later {most : Int} {v : Value} {W w' : World} (h : Fm w most v W) (hb : Below W.heap.size W w') : Fm w most v w' :=
  ⟨h.bel.trans (hb.mono h.bel.size), h.d.later (S := Nowhere) (Keeps.ofBelow hb) (fun x => x), h.r.later (S := Nowhere) (Keeps.ofBelow hb) (fun x => x)⟩
theorem Fm.cells {most : Int} {v : Value} {W : World} (h : Fm w most v W) : W.cell? ⟨w.heap.size, 0, none⟩ = some (.int .i64 most) ∧ W.cell? ⟨w.heap.size, 1, none⟩ = some v ∧ W.cell? ⟨w.heap.size + 1, 0, none⟩ = some (.int .i64 0) ∧ W.cell? ⟨w.heap.size + 1, 1, none⟩ = some (.slice none 0 0) ∧ W.frozen? ⟨w.heap.size + 1, 0, none⟩ = false ∧ W.frozen? ⟨w.heap.size + 1, 1, none⟩ = false ∧ W.frozen? ⟨w.heap.size, 1, none⟩ = false :=
  ⟨by rw [h.d.cell]; rfl, by rw [h.d.cell]; rfl, by rw [h.r.cell]; rfl, by rw [h.r.cell]; rfl, h.r.frozen 0, h.r.frozen 1, h.d.frozen 1⟩
/-- the result is stored -/
theorem Fm.done {most : Int} {v : Value} {W : World} (h : Fm w most v W) : Cells ((W.setCell ⟨w.heap.size + 1, 0, none⟩ (.int .i64 most)).setCell ⟨w.heap.size + 1, 1, none⟩ v) (w.heap.size + 1) 31 [.int .i64 most, v] ∧ Keeps (fun k => k = w.heap.size + 1) W ((W.setCell ⟨w.heap.size + 1, 0, none⟩ (.int .i64 most)).setCell ⟨w.heap.size + 1, 1, none⟩ v) ∧ Below w.heap.size w ((W.setCell ⟨w.heap.size + 1, 0, none⟩ (.int .i64 most)).setCell ⟨w.heap.size + 1, 1, none⟩ v) := by
  have k : Keeps (fun k => k = w.heap.size + 1) W ((W.setCell ⟨w.heap.size + 1, 0, none⟩ (.int .i64 most)).setCell ⟨w.heap.size + 1, 1, none⟩ v) := ((Keeps.refl (fun k => k = w.heap.size + 1) W).setCell ⟨w.heap.size + 1, 0, none⟩ _ (fun _ => rfl)).setCell ⟨w.heap.size + 1, 1, none⟩ _ (fun _ => rfl)
  exact ⟨(h.r.setCell 0 _).setCell 1 _, k, ((Keeps.ofBelow (S := Nowhere) h.bel).next k (fun k e hlt => by omega)).bel⟩
theorem Fm.put {most : Int} {v v' : Value} {W : World} (h : Fm w most v W) : Fm w most v' (W.setCell ⟨w.heap.size, 1, none⟩ v') ∧ Keeps (fun k => k = w.heap.size) W (W.setCell ⟨w.heap.size, 1, none⟩ v') := by
  have k : Keeps (fun k => k = w.heap.size) W (W.setCell ⟨w.heap.size, 1, none⟩ v') := (Keeps.refl (fun k => k = w.heap.size) W).setCell ⟨w.heap.size, 1, none⟩ _ (fun _ => rfl)
  exact ⟨⟨((Keeps.ofBelow (S := Nowhere) h.bel).next k (fun k e hlt => by omega)).bel, h.d.setCell 1 v', h.r.setOther _ _ (by show w.heap.size + 1 ≠ w.heap.size; omega)⟩, k⟩
theorem MsgsN.set {base p : Nat} {W W' : World} {fv : Value} {ms : List (List Int)} (h : MsgsN base W fv ms) (hk : Keeps (fun k => k = p) W W') (hp : p < base) : MsgsN base W' fv ms :=
  RdL.sn (I := fun k => k = 0) h ⟨fun _ _ => rfl, hk.mono (fun k e _ => by subst e; exact give_old hp)⟩ (by decide)
theorem Each.drop {own : Nat → Nat} {d : Nat} {W : World} {vs : List Value} {rs : List (List Int)} (h : Each own d W vs rs) (k : Nat) : Each own d W (vs.drop k) (rs.drop k) := by
  induction vs generalizing rs k with
  | nil => cases rs with
    | nil => simp; trivial
    | cons => exact h.elim
  | cons v vs ih => cases rs with
    | nil => exact h.elim
    | cons r rs => cases k with
      | zero => exact h
      | succ k => exact ih h.2 k
theorem MsgsN.drop {base k l c : Nat} {W : World} {a : Option Addr} {ms : List (List Int)} (h : MsgsN base W (.slice a l c) ms) (hk : k ≤ l) : MsgsN base W (.slice (if c = k then a else a.map (fun x => x.add k)) (l - k) (c - k)) (ms.drop k) := by
  obtain ⟨vs, ⟨a', c', e, hl, hc⟩, h2, h3, h4⟩ := h
  injection e with e1 e2 e3
  subst e1 e3
  have hlen : vs.length = l := e2.symm
  refine ⟨vs.drop k, ⟨_, c - k, by rw [List.length_drop, hlen], by rw [List.length_drop]; omega, fun j u hj => ?_⟩, fun l' c' e' => ?_, fun g hg => ?_, h4.drop k⟩
  · rw [List.getElem?_drop] at hj
    obtain ⟨x, hx, hn, hce⟩ := hc (k + j) u hj
    have hlt := (List.getElem?_eq_some_iff.1 hj).1
    subst hx
    refine ⟨x.add k, by rw [if_neg (by omega), Option.map_some], fun y => y, ?_⟩
    rw [add_add]
    exact hce
  · injection e' with e1 e2 e3
    cases a with
    | none =>
      have := h2 _ _ rfl
      omega
    | some ad =>
      split at e1
      · cases e1
      · cases e1
  · cases a with
    | none => split at hg <;> simp [Value.ownBlock] at hg
    | some ad =>
      have : g = ad.block := by
        split at hg
        · simpa [Value.ownBlock] using hg.symm
        · simp [Value.ownBlock, add_block] at hg; exact hg.symm
      exact h3 g (by rw [this]; rfl)
set_option maxHeartbeats 2000000 in
theorem refFeed27_nil (q : Option Addr) (L c : Nat) (bv' : Value) :
    Calls Tryd.prog 7 #[.agg #[.int .i64 (-1), .slice q L c], bv'] w fun e w' => e = .returned (.tuple #[.agg #[.int .i64 (-1), .slice q L c], .slice none 0 0, .int .i64 1]) ∧ Aside (Below w.heap.size w w') := by
  obtain ⟨W0, hW0⟩ : ∃ W0, W0 = (w.alloc (.cells #[.int .i64 (-1), .slice q L c] 31)).alloc (.cells #[.int .i64 0, .slice none 0 0] 31) := ⟨_, rfl⟩
  have P := Fm.start (w := w) (-1) (.slice q L c)
  rw [← hW0] at P
  obtain ⟨d0, d1, e0, e1, f0, f1, _⟩ := P.cells
  obtain ⟨D1, _, D3⟩ := P.done
  have y0 := D1.cell 0
  have y1 := D1.cell 1
  simp only [List.getElem?_cons_zero, List.getElem?_cons_succ] at y0 y1
  have D3 := Aside.mk D3
  clear P D1
  go_enter Tryd.func7, Tryd.ntmps7
  go_upto_region 1 with fail
  rw [← hW0]
  clear hW0
  go_wp2
  generalize ((W0.setCell ⟨w.heap.size + 1, 0, none⟩ (.int .i64 (-1))).setCell ⟨w.heap.size + 1, 1, none⟩ (.slice q L c)) = W1 at y0 y1 D3 ⊢
  refine bodyPost_ret (v := .tuple #[.agg #[.int .i64 (-1), .slice q L c], .slice none 0 0, .int .i64 1]) (by simp [results, Tryd.results7, go_sem, y0, y1]) rfl ?_
  exact ⟨rfl, D3⟩
set_option maxHeartbeats 4000000 in
theorem refFeed27_dead (q : Option Addr) (L c : Nat) (R : Rd w (.slice q L c) F) (hb : AreBytes F) (hL : F.length ≤ 16777216) {most : Nat} (hm : most ≤ 1048576) (hd : (parseM most F).dead = true) (bv' : Value) :
    Calls Tryd.prog 7 #[.agg #[.int .i64 most, .slice q L c], bv'] w fun e w' => e = .returned (.tuple #[.agg #[.int .i64 most, .slice q L c], .slice none 0 0, .int .i64 34]) ∧ Aside (Below w.heap.size w w') := by
  obtain ⟨W0, hW0⟩ : ∃ W0, W0 = (w.alloc (.cells #[.int .i64 most, .slice q L c] 31)).alloc (.cells #[.int .i64 0, .slice none 0 0] 31) := ⟨_, rfl⟩
  have P := Fm.start (w := w) most (.slice q L c)
  rw [← hW0] at P
  have P := Aside.mk P
  obtain ⟨d0, d1, _⟩ := P.it.cells
  have SY := Aside.mk (say27 (w := W0) (most := most) q L c F (R.later P.it.bel) hb hL hm)
  rw [hd] at SY
  have hr0 : restM (parseM most F) = 0 := by unfold restM; rw [if_pos hd]
  rw [hr0] at SY
  have hm0 : ¬ (most : Int) < 0 := by omega
  have hsz : W0.heap.size = w.heap.size + 2 := by rw [hW0, World.size_alloc, World.size_alloc]
  have HSZ := Aside.mk hsz
  clear R hb hL hd hm hsz hr0
  go_enter Tryd.func7, Tryd.ntmps7
  go_upto_region 1 with fail
  rw [← hW0]
  clear hW0
  go_upto_region 4 with (first | (go_at_call 17; refine SY.it.mono ?_; clear SY; rintro e w1 ⟨fq, fl, fc, rfl, FR, B1⟩) | fail)
  have P2 := Aside.mk ((P.it.later B1.it).later (al_below w1 (.cells #[.slice fq fl fc, .int .i64 ((0 : Nat) : Int), .bool true] 50)))
  have T1 := Cells.new w1 50 [.slice fq fl fc, .int .i64 ((0 : Nat) : Int), .bool true]
  have t2 := T1.cell 2
  simp only [List.getElem?_cons_zero, List.getElem?_cons_succ] at t2
  have htb : Aside (w.heap.size + 2 ≤ w1.heap.size) := ⟨by have := B1.it.size; have := HSZ.it; omega⟩
  clear d0 d1 P T1
  generalize w1.alloc (.cells #[.slice fq fl fc, .int .i64 ((0 : Nat) : Int), .bool true] 50) = w2 at t2 P2 ⊢
  generalize w1.heap.size = tb at t2 htb ⊢
  obtain ⟨d0, d1, e0, e1, f0, f1, _⟩ := P2.it.cells
  obtain ⟨D1, _, D3⟩ := P2.it.done
  have y0 := D1.cell 0
  have y1 := D1.cell 1
  simp only [List.getElem?_cons_zero, List.getElem?_cons_succ] at y0 y1
  have D3 := Aside.mk D3
  clear D1
  go_wp2
  generalize ((w2.setCell ⟨w.heap.size + 1, 0, none⟩ (.int .i64 most)).setCell ⟨w.heap.size + 1, 1, none⟩ (.slice q L c)) = W1 at y0 y1 D3 ⊢
  go_wp2
  refine bodyPost_ret (v := .tuple #[.agg #[.int .i64 most, .slice q L c], .slice none 0 0, .int .i64 34]) (by simp [results, Tryd.results7, go_sem, y0, y1]) rfl ?_
  exact ⟨rfl, D3⟩
theorem slice_block {base k n : Nat} {e : TypeId} {v : Value} {ys : List Value} {g o l c : Nat} (h : w.ownsRow base e k v n ys) (hv : v = .slice (some ⟨g, o, none⟩) l c) : (Value.slice (some ⟨g, o, none⟩) l c).ownBlock = some g := by
  rcases h.2 with ⟨e2, _⟩ | ⟨g', cap, cur, e2, _⟩
  · rw [e2] at hv; cases hv
  · rw [e2] at hv
    injection hv with hv
    injection hv with hv
    injection hv with hv ho
    subst hv ho
    rfl
set_option maxRecDepth 20000 in
set_option maxHeartbeats 8000000 in
theorem refFeed27_live (q : Option Addr) (L c : Nat) (R : Rd w (.slice q L c) F) (hb : AreBytes F) (ba : Option Addr) (bl bc : Nat) (B : List Int) (RB : Rd w (.slice ba bl bc) B) (hbb : AreBytes B) (hL : F.length + B.length ≤ 16777216) {most : Nat} (hm : most ≤ 1048576) (hd : (parseM most F).dead = false) :
    Calls Tryd.prog 7 #[.agg #[.int .i64 most, .slice q L c], .slice ba bl bc] w fun e w' => ∃ q' L' c' fq' fl' fc', e = .returned (.tuple #[.agg #[.int .i64 most, .slice q' L' c'], .slice fq' fl' fc', .int .i64 (codeM (parseM most (F ++ B)))]) ∧ Aside (Rd w' (.slice q' L' c') (F ++ B) ∧ ∀ g o l c, Value.slice q' L' c' = .slice (some ⟨g, o, none⟩) l c → w.heap.size ≤ g) ∧ Aside (MsgsN w.heap.size w' (.slice fq' fl' fc') ((parseM most (F ++ B)).ms.drop (parseM most F).ms.length)) ∧ Aside (Below w.heap.size w w') := by
  obtain ⟨W0, hW0⟩ : ∃ W0, W0 = (w.alloc (.cells #[.int .i64 most, .slice q L c] 31)).alloc (.cells #[.int .i64 0, .slice none 0 0] 31) := ⟨_, rfl⟩
  have P := Fm.start (w := w) most (.slice q L c)
  rw [← hW0] at P
  have P := Aside.mk P
  obtain ⟨d0, d1, _⟩ := P.it.cells
  have SY := Aside.mk (say27 (w := W0) (most := most) q L c F (R.later P.it.bel) hb (by omega) hm)
  rw [hd] at SY
  obtain ⟨n, hn⟩ : ∃ n, restM (parseM most F) = n := ⟨_, rfl⟩
  rw [hn] at SY
  have hm0 : ¬ (most : Int) < 0 := by omega
  have HMo := Aside.mk hm
  have hsz : W0.heap.size = w.heap.size + 2 := by rw [hW0, World.size_alloc, World.size_alloc]
  have HSZ := Aside.mk hsz
  have RR := Aside.mk (And.intro R RB)
  have BBs : Aside (AreBytes (F ++ B)) := ⟨fun x hx => (List.mem_append.1 hx).elim (hb x) (hbb x)⟩
  have HL := Aside.mk hL
  have HPL : Aside ((parseM most F).ms.length ≤ (parseM most (F ++ B)).ms.length) := ⟨by
    rw [parseM_app F B hd]
    simp⟩
  clear R RB hb hbb hL hd hm hsz hn
  go_enter Tryd.func7, Tryd.ntmps7
  go_upto_region 1 with fail
  rw [← hW0]
  clear hW0
  go_upto_region 4 with (first | (go_at_call 17; refine SY.it.mono ?_; clear SY; rintro e w1 ⟨fq, fl, fc, rfl, FR, B1⟩) | fail)
  have P2 := Aside.mk ((P.it.later B1.it).later (al_below w1 (.cells #[.slice fq fl fc, .int .i64 n, .bool false] 50)))
  have T1 := Aside.mk (Cells.new w1 50 [.slice fq fl fc, .int .i64 n, .bool false])
  have t2 := T1.it.cell 2
  simp only [List.getElem?_cons_zero, List.getElem?_cons_succ] at t2
  have htb : Aside (w.heap.size + 2 ≤ w1.heap.size ∧ w1.heap.size < (w1.alloc (.cells #[.slice fq fl fc, .int .i64 n, .bool false] 50)).heap.size) := ⟨by have := B1.it.size; have := HSZ.it; omega, by rw [World.size_alloc]; omega⟩
  have hfl : Aside (fl = (parseM most F).ms.length) := ⟨by
    obtain ⟨a, c', e, _⟩ := RdL.at FR.it
    injection e⟩
  clear d0 d1 P
  generalize w1.alloc (.cells #[.slice fq fl fc, .int .i64 n, .bool false] 50) = w2 at t2 P2 T1 htb ⊢
  generalize w1.heap.size = tb at t2 htb T1 ⊢
  obtain ⟨d0, d1, _⟩ := P2.it.cells
  have KA : Keeps Nowhere w2 (w2.alloc (.cells #[] 5)) := (Keeps.refl _ _).alloc _
  obtain ⟨_, x1, _⟩ := (P2.it.later KA.bel).cells
  have OE : Aside ((w2.alloc (.cells #[] 5)).ownsRow 0 5 1 (.slice (some ⟨w2.heap.size, 0, none⟩) 0 0) ([] : List Int).length (bv [])) := ⟨owns_any (owns_empty w2 5)⟩
  have RF : Aside (Rd (w2.alloc (.cells #[] 5)) (.slice q L c) F) := ⟨RR.it.1.later (P2.it.bel.trans (KA.bel.mono P2.it.bel.size))⟩
  have hb1 : Aside (([] : List Int).length + F.length ≤ 140737488355328) := ⟨by have := HL.it; simp; omega⟩
  go_upto_region 7 with (first | (at_builtin; refine wpList_appendO rfl (.tmp 19) (.tmp 21) rfl (.slice (some ⟨w2.heap.size, 0, none⟩) 0 0) (.slice q L c) [] F OE.it RF.it hb1.it rfl rfl ?_; intro q3 l3 c3 w3 O3 K3 B3) | fail)
  have KK3 : Aside (Keeps Nowhere w2 w3) := ⟨KA.next K3.it (fun k e hlt => by simp [Value.ownBlock] at e; omega)⟩
  have P3 := Aside.mk (P2.it.later KK3.it.bel)
  have T3 := Aside.mk (T1.it.later KK3.it (fun x => x))
  have N3 : Aside (∀ b, (Value.slice q3 l3 c3).ownBlock = some b → w2.heap.size ≤ b) := ⟨fun b hb => by
    rcases B3.it b hb with h | h
    · simp [Value.ownBlock] at h; omega
    · have := KA.size; omega⟩
  rw [List.nil_append] at O3
  have RB3 : Aside (Rd w3 (.slice ba bl bc) B) := ⟨RR.it.2.later P3.it.bel⟩
  have hb2 : Aside (F.length + B.length ≤ 140737488355328) := ⟨by have := HL.it; omega⟩
  clear d0 d1 t2 x1 OE RF hb1 KA K3 B3
  go_upto_region 8 with (first | (at_builtin; refine wpList_appendO rfl (.tmp 23) (.tmp 24) rfl (.slice q3 l3 c3) (.slice ba bl bc) F B O3.it RB3.it hb2.it rfl rfl ?_; intro q4 l4 c4 w4 O4 K4 B4) | fail)
  have KK4 : Aside (Keeps Nowhere w2 w4) := ⟨KK3.it.next K4.it (fun k e hlt => by have := N3.it k e; omega)⟩
  have P4 := Aside.mk (P2.it.later KK4.it.bel)
  have T4 := Aside.mk (T1.it.later KK4.it (fun x => x))
  have N4 : Aside (∀ b, (Value.slice q4 l4 c4).ownBlock = some b → w2.heap.size ≤ b) := ⟨fun b hb => by
    rcases B4.it b hb with h | h
    · exact N3.it b h
    · have := KK3.it.size; omega⟩
  clear P2 T1 P3 T3 RB3 hb2 O3 N3 K4 B4 KK3
  obtain ⟨d0, d1, _, _, _, _, g1⟩ := P4.it.cells
  obtain ⟨P5, K5⟩ := P4.it.put (v' := .slice q4 l4 c4)
  have P5 := Aside.mk P5
  have T5 := Aside.mk (T4.it.later K5 (by have := htb.it; omega))
  have R5 : Aside (Rd (w4.setCell ⟨w.heap.size, 1, none⟩ (.slice q4 l4 c4)) (.slice q4 l4 c4) (F ++ B)) := ⟨by
    have o5 := owns_later O4.it K5 (fun b hb e => by have := N4.it b hb; have := htb.it; omega)
    exact OwnB.rd (B := 0) o5⟩
  have hb5 : Aside (w.heap.size + 2 ≤ (w4.setCell ⟨w.heap.size, 1, none⟩ (.slice q4 l4 c4)).heap.size ∧ tb < (w4.setCell ⟨w.heap.size, 1, none⟩ (.slice q4 l4 c4)).heap.size) := ⟨by
    have h1 := K5.size
    have h2 := KK4.it.size
    have := htb.it
    omega⟩
  have NB2 : Aside (∀ b, (Value.slice q4 l4 c4).ownBlock = some b → w.heap.size + 2 ≤ b) := ⟨fun b hb => by have := N4.it b hb; have := htb.it; omega⟩
  have NB : Aside (∀ g o l c, Value.slice q4 l4 c4 = .slice (some ⟨g, o, none⟩) l c → w.heap.size ≤ g) := ⟨fun g o l c e => by
    have := N4.it g (by rw [e]; exact slice_block O4.it e)
    have := htb.it
    omega⟩
  clear P4 T4 O4 K5
  go_upto_region 9 with fail
  generalize w4.setCell ⟨w.heap.size, 1, none⟩ (.slice q4 l4 c4) = w5 at P5 T5 R5 hb5 ⊢
  clear d0 d1 g1
  obtain ⟨d0, d1, _⟩ := P5.it.cells
  have SY := Aside.mk (say27 (w := w5) (most := most) q4 l4 c4 (F ++ B) R5.it BBs.it (by rw [List.length_append]; exact HL.it) HMo.it)
  obtain ⟨n2, hn2⟩ : ∃ n2, restM (parseM most (F ++ B)) = n2 := ⟨_, rfl⟩
  obtain ⟨b2, hb2⟩ : ∃ b2, (parseM most (F ++ B)).dead = b2 := ⟨_, rfl⟩
  rw [hn2, hb2] at SY
  have HB2 := Aside.mk hb2
  clear hn2 hb2
  go_upto_region 10 with (first | (go_at_call 17; refine SY.it.mono ?_; clear SY; rintro e w6 ⟨gq, gl, gc, rfl, FR2, B6⟩) | fail)
  have A6 := al_below w6 (.cells #[.slice gq gl gc, .int .i64 n2, .bool b2] 50)
  have P7 := Aside.mk ((P5.it.later B6.it).later A6)
  have T7 := (T5.it.later (S := Nowhere) (Keeps.ofBelow B6.it) (fun x => x)).later (S := Nowhere) (Keeps.ofBelow A6) (fun x => x)
  have U7 := Cells.new w6 50 [.slice gq gl gc, .int .i64 n2, .bool b2]
  have R7 := Aside.mk ((R5.it.later B6.it).later A6)
  have F7 : Aside (∃ base, w.heap.size + 2 ≤ base ∧ MsgsN base (w6.alloc (.cells #[.slice gq gl gc, .int .i64 n2, .bool b2] 50)) (.slice gq gl gc) (parseM most (F ++ B)).ms) := ⟨_, hb5.it.1, FR2.it.later A6⟩
  have t0 := T7.cell 0
  have u0 := U7.cell 0
  have u2 := U7.cell 2
  simp only [List.getElem?_cons_zero, List.getElem?_cons_succ] at t0 u0 u2
  have hgl : Aside (gl = (parseM most (F ++ B)).ms.length ∧ gl ≤ gc) := ⟨by
    obtain ⟨a, c', e, hc, _⟩ := RdL.at FR2.it
    injection e with _ e2 e3
    exact ⟨e2, by omega⟩⟩
  have j1 : (fl : Int) ≤ (gl : Int) := by have := hgl.it.1; have := hfl.it; have := HPL.it; omega
  have j2 : (gl : Int) ≤ (gc : Int) := by have := hgl.it.2; omega
  have j3 : (0 : Int) ≤ (fl : Int) := by omega
  have hnb : Aside (w.heap.size + 2 ≤ w6.heap.size) := ⟨by have := B6.it.size; have := hb5.it; omega⟩
  have htb7 : Aside (w.heap.size + 2 ≤ tb) := ⟨htb.it.1⟩
  clear d0 d1 T7 U7 T5 P5 R5 A6 FR2
  generalize w6.alloc (.cells #[.slice gq gl gc, .int .i64 n2, .bool b2] 50) = w7 at P7 R7 F7 t0 u0 u2 ⊢
  generalize w6.heap.size = nb at u0 u2 hnb ⊢
  obtain ⟨d0, d1, e0, e1, f0, f1, _⟩ := P7.it.cells
  obtain ⟨D1, D2, D3⟩ := P7.it.done
  have y0 := D1.drew.cell 0
  have y1 := D1.drew.cell 1
  simp only [List.getElem?_cons_zero, List.getElem?_cons_succ] at y0 y1
  have D3 := Aside.mk (Keeps.drew (Keeps.ofBelow (S := Nowhere) D3)).bel
  have D2 := Aside.mk D2.drew
  have R8 : Aside (Rd ((w7.setCell ⟨w.heap.size + 1, 0, none⟩ (.int .i64 most)).setCell ⟨w.heap.size + 1, 1, none⟩ (.slice q4 l4 c4)).drew (.slice q4 l4 c4) (F ++ B)) := ⟨R7.it.keep D2.it (fun g hg e => by have := NB2.it g hg; omega)⟩
  have F8 : Aside (MsgsN w.heap.size ((w7.setCell ⟨w.heap.size + 1, 0, none⟩ (.int .i64 most)).setCell ⟨w.heap.size + 1, 1, none⟩ (.slice q4 l4 c4)).drew (.slice gq gl gc) (parseM most (F ++ B)).ms) := by
    obtain ⟨base, hbase, h7⟩ := F7.it
    exact ⟨(h7.set D2.it (by omega)).mono (by omega)⟩
  have m1 : w.heap.size ≠ w.heap.size + 1 := by omega
  have m2 : tb ≠ w.heap.size + 1 := by have := htb7.it; omega
  have m3 : nb ≠ w.heap.size + 1 := by have := hnb.it; omega
  have m4 := m1.symm
  have m5 := m2.symm
  have m6 := m3.symm
  clear D1
  clear P7 R7 F7 D2
  cases b2 with
  | true =>
    by_cases hc : gc = fl
    · obtain rfl : gl = fl := by omega
      subst hc
      go_upto_region 11 with fail
      go_region_held3 (fun w' => w'.cell? ⟨w.heap.size, 0, none⟩ = some (.int .i64 most) ∧ w'.cell? ⟨w.heap.size, 1, none⟩ = some (.slice q4 l4 c4) ∧ w'.cell? ⟨tb, 0, none⟩ = some (.slice fq gc fc) ∧ w'.cell? ⟨nb, 0, none⟩ = some (.slice gq gc gc) ∧ w'.cell? ⟨nb, 2, none⟩ = some (.bool true)) (first | go_keep) (fail)
      generalize ((w7.setCell ⟨w.heap.size + 1, 0, none⟩ (.int .i64 most)).setCell ⟨w.heap.size + 1, 1, none⟩ (.slice q4 l4 c4)).drew = W8 at y0 y1 D3 R8 F8 ⊢
      have FX := F8.it.drop (k := gc) (Nat.le_refl _)
      rw [if_pos rfl, Nat.sub_self] at FX
      have FX := Aside.mk FX
      go_wp2
      all_goals refine bodyPost_ret (v := .tuple #[.agg #[.int .i64 most, .slice q4 l4 c4], .slice gq 0 0, .int .i64 15]) (by simp [results, Tryd.results7, go_sem, y0, y1]) rfl ?_
      all_goals exact ⟨q4, l4, c4, _, _, _, by unfold codeM; rw [HB2.it]; rfl, ⟨R8.it, NB.it⟩, ⟨by rw [← hfl.it]; exact FX.it⟩, D3⟩
    · go_upto_region 11 with fail
      go_region_held3 (fun w' => w'.cell? ⟨w.heap.size, 0, none⟩ = some (.int .i64 most) ∧ w'.cell? ⟨w.heap.size, 1, none⟩ = some (.slice q4 l4 c4) ∧ w'.cell? ⟨tb, 0, none⟩ = some (.slice fq fl fc) ∧ w'.cell? ⟨nb, 0, none⟩ = some (.slice gq gl gc) ∧ w'.cell? ⟨nb, 2, none⟩ = some (.bool true)) (first | go_keep) (fail)
      generalize ((w7.setCell ⟨w.heap.size + 1, 0, none⟩ (.int .i64 most)).setCell ⟨w.heap.size + 1, 1, none⟩ (.slice q4 l4 c4)).drew = W8 at y0 y1 D3 R8 F8 ⊢
      have FX := F8.it.drop (k := fl) (by omega)
      rw [if_neg hc] at FX
      have FX := Aside.mk FX
      go_wp2
      all_goals refine bodyPost_ret (v := .tuple #[.agg #[.int .i64 most, .slice q4 l4 c4], .slice (gq.map (fun x => x.add fl)) (gl - fl) (gc - fl), .int .i64 15]) (by simp [results, Tryd.results7, go_sem, y0, y1]) rfl ?_
      all_goals exact ⟨q4, l4, c4, _, _, _, by unfold codeM; rw [HB2.it]; rfl, ⟨R8.it, NB.it⟩, ⟨by rw [← hfl.it]; exact FX.it⟩, D3⟩
  | false =>
    by_cases hc : gc = fl
    · obtain rfl : gl = fl := by omega
      subst hc
      go_upto_region 12 with fail
      go_region_held3 (fun w' => w'.cell? ⟨w.heap.size, 0, none⟩ = some (.int .i64 most) ∧ w'.cell? ⟨w.heap.size, 1, none⟩ = some (.slice q4 l4 c4) ∧ w'.cell? ⟨tb, 0, none⟩ = some (.slice fq gc fc) ∧ w'.cell? ⟨nb, 0, none⟩ = some (.slice gq gc gc) ∧ w'.cell? ⟨nb, 2, none⟩ = some (.bool false)) (first | go_keep) (fail)
      generalize ((w7.setCell ⟨w.heap.size + 1, 0, none⟩ (.int .i64 most)).setCell ⟨w.heap.size + 1, 1, none⟩ (.slice q4 l4 c4)).drew = W8 at y0 y1 D3 R8 F8 ⊢
      have FX := F8.it.drop (k := gc) (Nat.le_refl _)
      rw [if_pos rfl, Nat.sub_self] at FX
      have FX := Aside.mk FX
      go_wp2
      all_goals refine bodyPost_ret (v := .tuple #[.agg #[.int .i64 most, .slice q4 l4 c4], .slice gq 0 0, .int .i64 0]) (by simp [results, Tryd.results7, go_sem, y0, y1]) rfl ?_
      all_goals exact ⟨q4, l4, c4, _, _, _, by unfold codeM; rw [HB2.it]; rfl, ⟨R8.it, NB.it⟩, ⟨by rw [← hfl.it]; exact FX.it⟩, D3⟩
    · go_upto_region 12 with fail
      go_region_held3 (fun w' => w'.cell? ⟨w.heap.size, 0, none⟩ = some (.int .i64 most) ∧ w'.cell? ⟨w.heap.size, 1, none⟩ = some (.slice q4 l4 c4) ∧ w'.cell? ⟨tb, 0, none⟩ = some (.slice fq fl fc) ∧ w'.cell? ⟨nb, 0, none⟩ = some (.slice gq gl gc) ∧ w'.cell? ⟨nb, 2, none⟩ = some (.bool false)) (first | go_keep) (fail)
      generalize ((w7.setCell ⟨w.heap.size + 1, 0, none⟩ (.int .i64 most)).setCell ⟨w.heap.size + 1, 1, none⟩ (.slice q4 l4 c4)).drew = W8 at y0 y1 D3 R8 F8 ⊢
      have FX := F8.it.drop (k := fl) (by omega)
      rw [if_neg hc] at FX
      have FX := Aside.mk FX
      go_wp2
      all_goals refine bodyPost_ret (v := .tuple #[.agg #[.int .i64 most, .slice q4 l4 c4], .slice (gq.map (fun x => x.add fl)) (gl - fl) (gc - fl), .int .i64 0]) (by simp [results, Tryd.results7, go_sem, y0, y1]) rfl ?_
      all_goals exact ⟨q4, l4, c4, _, _, _, by unfold codeM; rw [HB2.it]; rfl, ⟨R8.it, NB.it⟩, ⟨by rw [← hfl.it]; exact FX.it⟩, D3⟩
end
end Go.Proofs.YtnocalkloinbbaaDoor
