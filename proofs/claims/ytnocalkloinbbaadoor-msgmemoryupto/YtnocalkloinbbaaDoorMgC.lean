/-
  package msg: take, letGo
-/
import Derived.Test.YtnocalkloinbbaaDoorMgA
import Derived.Test.YtnocalkloinbbaaDoorRdSeg
import Derived.Deep.RegionHeldLaw
import Derived.Deep.RegionHeld3
import Derived.BigRegion
import Derived.Deep.DeepCutAuto
namespace Go.Proofs.YtnocalkloinbbaaDoor
open Go.RowKit

section
variable {A : Nat → Addr} {w w' W w0 : World} {own own' : Nat → Nat} {i j p most : Nat} {h B bs : List Int} {z : Bool} {v : Value} {I : Nat → Prop}
theorem there6 {e : TypeId} {c0 c1 c2 c3 c4 c5 : Value} (h : Cells W p e [c0, c1, c2, c3, c4, c5]) : W.there p 0 6 := by
  intro j hj
  rw [Nat.zero_add]
  refine ⟨?_, h.frozen j⟩
  rw [h.cell, List.getElem?_eq_getElem (by show j < 6; exact hj)]
  rfl
theorem readerInfo (c0 c1 c2 c3 c4 c5 : Value) : (Tryd.prog.info? 48).map (·.size) = some (#[c0, c1, c2, c3, c4, c5] : Array Value).size := by
  have : (Tryd.prog.info? 48).map (·.size) = some 6 := by kernel_rfl
  rw [this]; rfl
theorem cells6 {e : TypeId} {c0 c1 c2 c3 c4 c5 : Value} (h : Cells W p e [c0, c1, c2, c3, c4, c5]) (d0 d1 d2 d3 d4 d5 : Value) : Cells (W.setCells p 0 (#[d0, d1, d2, d3, d4, d5] : Array Value).toList) p e [d0, d1, d2, d3, d4, d5] ∧ Keeps (fun k => k = p) W (W.setCells p 0 (#[d0, d1, d2, d3, d4, d5] : Array Value).toList) :=
  ⟨(((((h.setCell 0 d0).setCell 1 d1).setCell 2 d2).setCell 3 d3).setCell 4 d4).setCell 5 d5,
   ((((((Keeps.refl (fun k => k = p) W).setCell ⟨p, 0, none⟩ d0 (fun _ => rfl)).setCell ⟨p, 1, none⟩ d1 (fun _ => rfl)).setCell ⟨p, 2, none⟩ d2 (fun _ => rfl)).setCell ⟨p, 3, none⟩ d3 (fun _ => rfl)).setCell ⟨p, 4, none⟩ d4 (fun _ => rfl)).setCell ⟨p, 5, none⟩ d5 (fun _ => rfl)⟩
theorem letGoM (r : RdrI own i w p most h z B v) (j : Nat) : Calls Tryd.prog 19 #[ptr p] w fun e w' => e = .returned v ∧ ∃ own', Aside (RdrI own' i w' p most [] false [] (.slice none 0 0) ∧ RowB own' j w' v B ∧ Sx (fun k => k = i ∨ k = i + 1) own w own' w' ∧ ∀ b, own b ≠ i + 1 → own' b = own b) := by
  obtain ⟨q, c, rfl⟩ := r.row.shape
  obtain ⟨c0, c1, c2, c3, c4, c5⟩ := r.cells
  obtain ⟨n, hn⟩ : ∃ n, B.length = n := ⟨_, rfl⟩
  have TH := Aside.mk (there6 r.box.1)
  have TI := Aside.mk (readerInfo (.int .i64 most) (.int .i64 0) (.int .i64 0) (.bool false) (.slice none 0 0) (.bool false))
  have TO : Aside ((#[.int .i64 most, .int .i64 0, .int .i64 0, .bool false, .slice none 0 0, .bool false] : Array Value).all (·.oneCell') = true) := ⟨by simp [Value.oneCell']⟩
  have C6 := cells6 r.box.1 (.int .i64 most) (.int .i64 0) (.int .i64 0) (.bool false) (.slice none 0 0) (.bool false)
  have nrow : (Value.slice q B.length c).ownBlock ≠ some p := fun e => by have := r.row.2 p e; have := r.box.2; omega
  have R : Aside (∃ own', RdrI own' i (w.setCells p 0 (#[.int .i64 most, .int .i64 0, .int .i64 0, .bool false, .slice none 0 0, .bool false] : Array Value).toList) p most [] false [] (.slice none 0 0) ∧ RowB own' j (w.setCells p 0 (#[.int .i64 most, .int .i64 0, .int .i64 0, .bool false, .slice none 0 0, .bool false] : Array Value).toList) (.slice q B.length c) B ∧ Sx (fun k => k = i ∨ k = i + 1) own w own' (w.setCells p 0 (#[.int .i64 most, .int .i64 0, .int .i64 0, .bool false, .slice none 0 0, .bool false] : Array Value).toList) ∧ ∀ b, own b ≠ i + 1 → own' b = own b) := ⟨⟨fun b => if own b = i + 1 then j else own b, ⟨⟨C6.1, by show (if own p = i + 1 then j else own p) = i; rw [if_neg (by rw [r.box.2]; omega)]; exact r.box.2⟩, RowB.nil _ _ _, part_new, r.most⟩,
    ⟨owns_later r.row.1 C6.2 (fun b hb e => nrow (by rw [hb, e])), fun b hb => by show (if own b = i + 1 then j else own b) = j; rw [if_pos (r.row.2 b hb)]⟩,
    ⟨fun k _ hk => if_neg (fun e => hk (.inr e)), C6.2.mono (fun k e _ => by subst e; exact .inl r.box.2)⟩, fun b hb => if_neg hb⟩⟩
  rw [hn] at R ⊢
  rw [hn] at c4
  clear r C6 nrow hn
  go_enter Tryd.func19, Tryd.ntmps19
  go_wp2_with (first | (refine wpList_store_mid rfl 48 _ _ rfl p 0 #[.int .i64 most, .int .i64 0, .int .i64 0, .bool false, .slice none 0 0, .bool false] rfl rfl TH.it TI.it TO.it ?_) | fail)
  go_ret
  obtain ⟨own', R1⟩ := R.it
  exact ⟨rfl, own', ⟨R1⟩⟩
theorem RdO.drop {q : Option Addr} {l c n : Nat} (h : RdO own j w (.slice q l c) bs) (hn : n ≤ bs.length) : RdO own j w (.slice (if c = n then q else q.map (fun x => x.add n)) (l - n) (c - n)) (bs.drop n) := by
  have h1 : RdS Nowhere w (.slice q l c) bs := ⟨h.1.1, h.1.2⟩
  refine ⟨(h1.drop hn).rd, fun g hg => h.2 g ?_⟩
  split at hg
  · cases q with
    | none => simp [Value.ownBlock] at hg
    | some ad => simpa [Value.ownBlock] using hg
  · cases q with
    | none => simp [Value.ownBlock] at hg
    | some ad => simpa [Value.ownBlock, add_block] using hg
theorem RdO.take {q : Option Addr} {l c n : Nat} (h : RdO own j w (.slice q l c) bs) (hn : n ≤ bs.length) : RdO own j w (.slice q n c) (bs.take n) := by
  refine ⟨⟨?_, fun l' c' e => ?_⟩, fun g hg => h.2 g (by cases q with | none => simp [Value.ownBlock] at hg | some ad => simpa [Value.ownBlock] using hg)⟩
  · have := ReadsOff.slice h.1.1 n (by rw [bv_length]; exact hn)
    rw [bv_take]
    exact this
  · injection e with e1 _ e3
    subst e1
    exact h.1.2 _ _ (by rw [e3])
theorem RdrI.grown {T : List Int} {q8 : Option Addr} {l8 c8 : Nat} {w8 : World} (r : RdrI own i W p most h true B v) (hp : Part most h true (B ++ T)) (o8 : w8.ownsRow 0 5 1 (.slice q8 l8 c8) (B ++ T).length (bv (B ++ T))) (k8 : Keeps (fun b => v.ownBlock = some b) W w8) (b8 : ∀ b, (Value.slice q8 l8 c8).ownBlock = some b → v.ownBlock = some b ∨ W.heap.size ≤ b) :
    w8.frozen? ⟨p, 4, none⟩ = false ∧ w8.cell? ⟨p, 4, none⟩ = some v ∧ ∃ own', RdrI own' i (w8.setCell ⟨p, 4, none⟩ (.slice q8 l8 c8)) p most h true (B ++ T) (.slice q8 l8 c8) ∧ Sx (fun k => k = i ∨ k = i + 1) own W own' (w8.setCell ⟨p, 4, none⟩ (.slice q8 l8 c8)) ∧ ∀ b, b < W.heap.size → own' b = own b := by
  obtain ⟨row, s8⟩ := RowB.app r.row o8 k8 b8
  have box := r.box.sn s8 (show ¬ i = i + 1 by omega)
  have k9 : Keeps (fun b => give own W.heap.size (i + 1) b = i) w8 (w8.setCell ⟨p, 4, none⟩ (.slice q8 l8 c8)) := (Keeps.refl _ _).setCell _ _ (fun _ => box.2)
  have s9 : Sn (fun k => k = i) (give own W.heap.size (i + 1)) w8 (give own W.heap.size (i + 1)) (w8.setCell ⟨p, 4, none⟩ (.slice q8 l8 c8)) := ⟨fun _ _ => rfl, k9⟩
  refine ⟨box.1.frozen 4, by rw [box.1.cell]; rfl, give own W.heap.size (i + 1), ⟨⟨box.1.setCell 4 _, box.2⟩, ?_, hp, r.most⟩, (s8.sx.mono (fun k e => .inr e)).trans (s9.sx.mono (fun k e => .inl e)), fun b hb => give_old hb⟩
  exact ⟨owns_later row.1 k9 (fun b hb e => by have := row.2 b hb; omega), row.2⟩
set_option maxHeartbeats 4000000 in
theorem takeM {q : Option Addr} {l c : Nat} (r : RdrI own i w p most h true B v) (R : RdO own j w (.slice q l c) bs) (hj : j ≠ i ∧ j ≠ i + 1) (hne : bs ≠ []) (hlt : B.length < lenOf h) (hbs : bs.length ≤ 70368744177664) : Calls Tryd.prog 20 #[ptr p, .slice q l c] w fun e w' => ∃ q' l' c' k v' own', e = .returned (.slice q' l' c') ∧ Aside (1 ≤ k ∧ k ≤ bs.length ∧ RdO own' j w' (.slice q' l' c') (bs.drop k) ∧ RdrI own' i w' p most h true (B ++ bs.take k) v' ∧ Sx (fun k => k = i ∨ k = i + 1) own w own' w' ∧ (∀ b, b < w.heap.size → own' b = own b)) := by
  obtain ⟨qv, cv, rfl⟩ := r.row.shape
  obtain ⟨qb, cb, e⟩ := R.1.shape
  injection e with e1 e2 e3
  subst e1 e2 e3
  obtain ⟨_, _, c2, _, c4, _⟩ := r.cells
  have hpl := part_len r.part
  have hms := r.most
  have hcb : bs.length ≤ c := by
    have := R.1.1.len
    rw [bv_length] at this
    omega
  obtain ⟨s, hs⟩ : ∃ s, lenOf h = s := ⟨_, rfl⟩
  obtain ⟨a, ha⟩ : ∃ a, B.length = a := ⟨_, rfl⟩
  obtain ⟨m, hm⟩ : ∃ m, bs.length = m := ⟨_, rfl⟩
  obtain ⟨n, hn⟩ : ∃ n, n = min m (s - a) := ⟨_, rfl⟩
  have hm1 : 1 ≤ m := by rw [← hm]; exact List.length_pos_iff.2 hne
  rw [hs, ha] at hlt
  rw [hs] at c2 hpl
  rw [ha] at c4 hpl
  rw [hm] at hcb hbs
  have n1 : 1 ≤ n := by omega
  have n2 : n ≤ m := by omega
  have n3 : a + n ≤ s := by omega
  have mn : min (m : Int) ((s : Int) - a) = (n : Int) := by omega
  have w1 : IntKind.i64.wrap ((s : Int) - a) = (s : Int) - a := by rw [IntKind.wrap_i64]; omega
  have HB := Aside.mk (And.intro hs (And.intro ha hm))
  have w2 : IntKind.i64.wrap (n : Int) = (n : Int) := by rw [IntKind.wrap_i64]; omega
  have RR : Aside (RdrI own i w p most h true B (.slice qv a cv)) := ⟨ha ▸ r⟩
  have RO : Aside (RdO own j w (.slice q m c) bs) := ⟨hm ▸ R⟩
  have HJ := Aside.mk hj
  have y0 : (0 : Int) ≤ (n : Int) := by omega
  have y1 : (n : Int) ≤ (m : Int) := by omega
  have y2 : (n : Int) ≤ (c : Int) := by omega
  have y3 : (m : Int) ≤ (c : Int) := by omega
  have HP : Aside (Part most h true (B ++ bs.take n)) := ⟨part_take r.part (by rw [hm]; omega) (by rw [hs, ha]; exact n3)⟩
  have bnd : Aside (B.length + (bs.take n).length ≤ 140737488355328) := ⟨by rw [ha, List.length_take, hm]; omega⟩
  have mn2 : min m (s - a) = n := hn.symm
  rw [hm]
  clear r R hs ha hm hpl hms hne hj hbs
  go_enter Tryd.func20, Tryd.ntmps20
  go_upto_region 1 with fail
  go_cut [5] (fun nv wx => nv = .int .i64 n ∧ ∃ x, wx = w.drewN x)
  case first =>
    go_quiet (fail)
    go_wp2
    all_goals
      go_meet
      exact ⟨by first | trivial | (congr 1; omega), _, rfl⟩
  case rest =>
    obtain ⟨rfl, x, hwc⟩ := hcut
    have R2 := Aside.mk (RR.it.quiet ((Keeps.refl _ _).drewN x))
    have RB2 := Aside.mk (RO.it.sn (I := fun _ => False) (Sn.same ((Keeps.refl Nowhere w).drewN x)) (fun x => x))
    have KW : Aside (w.heap.size = (w.drewN x).heap.size ∧ Keeps Nowhere w (w.drewN x)) := ⟨rfl, (Keeps.refl _ _).drewN x⟩
    rw [hwc]
    clear hwc mn mn2 RR RO hn
    generalize w.drewN x = W2 at R2 RB2 KW ⊢
    obtain ⟨_, _, _, _, c4, _⟩ := R2.it.cells
    have c4' : W2.drew.cell? ⟨p, 4, none⟩ = some (.slice qv a cv) := c4
    have RT := Aside.mk (RB2.it.take (n := n) (by rw [HB.it.2.2]; omega)).1
    have RT2 : Aside (Rd W2.drew (.slice q n c) (bs.take n)) := ⟨RT.it.later ((Keeps.refl Nowhere W2).drew).bel⟩
    have R3 : Aside (RdrI own i W2.drew p most h true B (.slice qv a cv)) := ⟨R2.it.quiet (Keeps.refl _ _).drew⟩
    go_upto_region 2 with fail
    go_cut [] (fun wx => ∃ v' own', Aside (RdrI own' i wx p most h true (B ++ bs.take n) v' ∧ Sx (fun k => k = i ∨ k = i + 1) own W2 own' wx ∧ ∀ b, b < W2.heap.size → own' b = own b))
    case first =>
      go_region_law (first | (refine step_appendO 27 rfl rfl (.tmp 23) (.tmp 26) rfl (.slice qv a cv) (.slice q n c) B (bs.take n) R3.it.row.1 RT2.it bnd.it rfl rfl ?_; intro q8 l8 c8 w8 O8 K8 B8; obtain ⟨z8, z9, G8⟩ := R3.it.grown HP.it O8.it K8.it B8.it; have G8 := Aside.mk G8))
      all_goals
        obtain ⟨own8, G1, G2, G3⟩ := G8.it
        go_wp2
        go_meet
        exact ⟨_, own8, ⟨G1, (Sn.same ((Keeps.refl Nowhere W2).drew)).sx.trans G2, G3⟩⟩
    case rest =>
      obtain ⟨v', own', G⟩ := hcut
      have RN := RB2.it.sx G.it.2.1 (by have := HJ.it; omega)
      have RD := RN.drop (n := n) (by rw [HB.it.2.2]; omega)
      have FI : Aside (1 ≤ n ∧ n ≤ m ∧ RdrI own' i wc p most h true (B ++ bs.take n) v' ∧ Sx (fun k => k = i ∨ k = i + 1) own w own' wc ∧ (∀ b, b < w.heap.size → own' b = own b)) := ⟨n1, n2, G.it.1, (Sn.same KW.it.2).sx.trans G.it.2.1, fun b hb => G.it.2.2 b (by rw [← KW.it.1]; exact hb)⟩
      clear c4 c4' RN G R2 RB2 RT RT2 R3
      by_cases hc : c = n
      · rw [if_pos hc] at RD
        have RD := Aside.mk RD
        subst hc
        have hmc : m = c := by omega
        rw [hmc, Nat.sub_self] at RD
        clear hmc
        go_wp2_with fail
        go_ret
        exact ⟨_, _, _, c, v', own', rfl, ⟨FI.it.1, FI.it.2.1, RD.it, FI.it.2.2⟩⟩
      · rw [if_neg hc] at RD
        have RD := Aside.mk RD
        go_wp2_with fail
        go_ret
        exact ⟨_, _, _, n, v', own', rfl, ⟨FI.it.1, FI.it.2.1, RD.it, FI.it.2.2⟩⟩
end
end Go.Proofs.YtnocalkloinbbaaDoor
