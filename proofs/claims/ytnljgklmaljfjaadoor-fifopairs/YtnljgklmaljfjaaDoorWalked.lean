/-
  culvertlaw03.walked
-/
import Derived.Test.YtnljgklmaljfjaaDoorRef03e
namespace Go.Proofs.YtnljgklmaljfjaaDoor
open Go.RowKit Go.Shelf Fint
attribute [local go_sem] Oper.semAt_some

theorem keeps_grown' {S : Nat → Prop} {w W W' : World} {row : Option Nat} (h : Keeps S w W) (hg : W.grownBy W' row) (hr : ∀ r, row = some r → S r) : Keeps S w W' :=
  h.next (S' := fun k => row = some k) ⟨hg.os, hg.tape, hg.output, hg.size, fun k hk hn => hg.block k hk (fun e => hn e.symm)⟩ (fun k e _ => hr k e)
set_option maxHeartbeats 1000000 in
theorem walked_ok {own : Nat → Nat} {i p rt rw : Nat} {q : Things} (w : World) (h : FifoO own i w p rt rw q) (hb : q.length ≤ 4398046511103) (a1 a2 : Int) (s : Value) (hr : ReadsK 2 w s q.length (flat q)) :
    Calls Tryd.prog 23 #[.pointer (some ⟨p, 0, none⟩), .agg #[.int .i64 a1, .int .i64 a2, s]] w fun e w' => e = .returned (.bool true) ∧ Aside (Keeps Nowhere w w') := by
  obtain ⟨a, c, rfl, hlc, hcm, hc⟩ := hr.at
  obtain ⟨N, hN⟩ : ∃ N, N = q.length := ⟨_, rfl⟩
  rw [← hN] at hlc ⊢
  have HN : Aside _ := ⟨hN⟩
  have HC : Aside _ := ⟨hc⟩
  have hn' : (N : Int) ≤ 9223372036854775807 := by omega
  obtain ⟨W0, hW0⟩ : ∃ W0, W0 = ((w.alloc (.cells #[.int .i64 a1, .int .i64 a2, .slice a N c] 35)).alloc (.cells #[.bool false] 4)).alloc (.cells #[.int .i64 0] 3) := ⟨_, rfl⟩
  have K0 : Aside (Keeps Nowhere w W0) := ⟨by rw [hW0]; exact (((Keeps.refl _ _).alloc _).alloc _).alloc _⟩
  have C0 : Aside (Cells W0 w.heap.size 35 [.int .i64 a1, .int .i64 a2, .slice a N c]) := ⟨by rw [hW0]; exact (Cells.new w _ _).later (S := Nowhere) (((Keeps.refl _ _).alloc _).alloc _) (fun x => x)⟩
  have C1 : Aside (Cells W0 (w.heap.size + 1) 4 [.bool false]) := ⟨by
    have h := Cells.new (w.alloc (.cells #[.int .i64 a1, .int .i64 a2, .slice a N c] 35)) 4 [.bool false]
    rw [World.size_alloc] at h
    rw [hW0]; exact h.later (S := Nowhere) ((Keeps.refl _ _).alloc _) (fun x => x)⟩
  have C2 : Aside (Cells W0 (w.heap.size + 1 + 1) 3 [.int .i64 0]) := ⟨by
    have h := Cells.new ((w.alloc (.cells #[.int .i64 a1, .int .i64 a2, .slice a N c] 35)).alloc (.cells #[.bool false] 4)) 3 [.int .i64 0]
    rw [World.size_alloc, World.size_alloc] at h
    rw [hW0]; exact h⟩
  have AL := hide (all_o (h.quiet K0.it) hb)
  have HB : Aside _ := ⟨hb⟩
  clear h hN hc hcm hb hr
  refine (callsIn_wide (n := 3)).1 ?_
  refine callsIn_of_wp_marks Tryd.func23 rfl trivial ?_ rfl
  simp only [Tryd.ntmps23, List.size_toArray, List.length_cons, List.length_nil, Nat.reduceAdd, Nat.reduceSub, Array.replicate_succ, Array.replicate_zero, List.push_toArray, List.append_toArray, List.nil_append, List.cons_append]
  gi_wp2_with fail
  rw [← hW0]
  clear hW0
  refine ⟨trivial, ?_⟩
  refine (callsIn_wide.2 AL.out).mono ?_
  rintro e w5 ⟨b, rfl, W5, k5⟩
  have nn := walk_not_nil w5 b
  gi_wp2_with fail
  obtain ⟨B, hB, hBk⟩ := W5.it.kept 2 (by decide) (by have := HB.it; omega)
  have c0 := C0.it.later k5.it (fun x => x)
  have c1 := C1.it.later k5.it (fun x => x)
  have c2 := C2.it.later k5.it (fun x => x)
  have E0 : Aside _ := ⟨c0⟩
  have E1 : Aside _ := ⟨c1⟩
  have hlt := c2.lt
  clear c0 c1 nn AL
  refine wpIn_rangeFunc_ownF rfl (by decide) (gf := 42) (lb := #[.pointer (some ⟨b, 0, none⟩)]) rfl trivial (enters_of Tryd.func42 (by kernel_rfl) rfl)
    hB kept_t (kept_b (fun k hk => (hBk k hk).2)) (Below.refl _ _) (fun _ => rfl) (fun pre W => Keeps (fun k => k = w.heap.size + 1 + 1) w5 W ∧ Cells W (w.heap.size + 1 + 1) 3 [.int .i64 pre.length] ∧ pre <+: q)
    (fun _ pre W => Keeps (fun k => k = w.heap.size + 1 + 1 ∨ k = w.heap.size + 1) w5 W ∧ ¬ pre <+: q) ?hI ?hIx ⟨Keeps.refl _ _, c2, List.nil_prefix⟩ ?a1 ?assign ?body ?done ?stop
  case hI =>
    intro pre W W' row hs hg hr'
    refine ⟨keeps_grown hs.1 hg (fun r e => (hr' r e).1), ?_, hs.2.2⟩
    exact hs.2.1.later (grown_keeps hg) (fun e => by have := (hr' _ e).1; omega)
  case hIx =>
    intro c pre W W' row hs hg hr'
    exact ⟨keeps_grown hs.1 hg (fun r e => (hr' r e).1), hs.2⟩
  case assign =>
    intro l x W K hK
    gi_wp2
    exact hK
  case stop =>
    intro D c pre W _ hp hx _
    exact absurd hp hx.2
  case body =>
    rintro l pre x W ⟨hk, hci, hpre⟩ hlen
    have hpl : pre.length < N := by rw [HN.it]; exact hlen
    obtain ⟨y, hy⟩ : ∃ y, q[pre.length]? = some y := ⟨_, List.getElem?_eq_getElem hlen⟩
    obtain ⟨g, o, rfl, y0, y1⟩ := HC.it pre.length y hy
    have hbl := World.block_lt_of_cell? w _ y0
    have kw : ∀ k, k < w.heap.size → W.heap[k]? = w.heap[k]? := fun k hk' => (hk.block k (by omega) (by omega)).trans ((k5.it.block k (Nat.lt_of_lt_of_le hk' K0.it.size) (fun x => x)).trans (K0.it.block k hk' (fun x => x)))
    have z0 : W.cell? ⟨g, o + pre.length * 2, none⟩ = some (.int .i64 y.1) := by rw [World.cell?_of_block (w := w) (kw g hbl)]; exact y0
    have z1 : W.cell? ⟨g, o + pre.length * 2 + 1, none⟩ = some (.int .i64 y.2) := by rw [World.cell?_of_block (w := w) (kw g hbl)]; exact y1
    have t0 := E0.it.later hk (by omega)
    have t1 := E1.it.later hk (by omega)
    have u2 : W.cell? ⟨w.heap.size, 2, none⟩ = some (.slice (some ⟨g, o, none⟩) N c) := by rw [t0.cell]; rfl
    have u1 : W.cell? ⟨w.heap.size + 1, 0, none⟩ = some (.bool false) := by rw [t1.cell]; rfl
    have f1 := t1.frozen 0
    have ui : W.cell? ⟨w.heap.size + 1 + 1, 0, none⟩ = some (.int .i64 pre.length) := by rw [hci.cell]; rfl
    have fi := hci.frozen 0
    have HK : Aside _ := ⟨hk⟩
    have HCI : Aside _ := ⟨hci⟩
    have HPRE : Aside _ := ⟨hpre⟩
    have HY : Aside _ := ⟨hy⟩
    have HBK : Aside _ := ⟨hBk⟩
    have hpx : Aside (pre ++ [x] <+: q ↔ x = y) := ⟨by
      obtain ⟨r, rfl⟩ := hpre
      rw [List.getElem?_append_right (Nat.le_refl _), Nat.sub_self] at hy
      cases r with
      | nil => simp at hy
      | cons z r =>
        simp only [List.getElem?_cons_zero, Option.some.injEq] at hy
        subst hy
        rw [List.prefix_append_right_inj, List.cons_prefix_cons]
        simp⟩
    obtain ⟨n, hn⟩ : ∃ n, n = pre.length := ⟨_, rfl⟩
    rw [← hn] at z0 z1 ui hpl
    have HNN : Aside _ := ⟨hn⟩
    clear hk hci hpre y0 y1 t0 t1 hbl kw hy hlen hn hBk hB
    by_cases h1 : x.1 = y.1
    · by_cases h2 : x.2 = y.2
      · have hxy : x = y := Prod.ext h1 h2
        subst hxy
        clear h1 h2
        gi_wp2
        all_goals first
          | (exfalso; omega)
          | skip
        refine ⟨KeepsOthers.setCell _ _ _, fun k hk => Below.heap_setCell W _ _ k (fun e => ?_), HK.it.setCell _ _ (fun _ => rfl), ?_, by first | exact hpx.it.2 rfl | exact hpx.it.2 trivial⟩
        · have h1 := (HBK.it k hk).1
          have h2 := C2.it.lt
          have h3 : k = w.heap.size + 1 + 1 := e
          omega
        · have h := HCI.it.setCell 0 (.int .i64 ((n : Int) + 1))
          rw [List.length_append, ← HNN.it]
          exact h
      · have h2' : ((x.2 : Int) != (y.2 : Int)) = true := bne_iff_ne.2 (fun e => h2 (by omega))
        gi_wp2
        all_goals first
          | (exfalso; omega)
          | skip
        all_goals exact ⟨KeepsOthers.setCell _ _ _, (HK.it.mono (fun k e _ => .inl e)).setCell _ _ (fun _ => .inr rfl), fun e => h2 (by rw [hpx.it.1 e])⟩
    · gi_wp2
      all_goals first
        | (exfalso; omega)
        | exact ⟨KeepsOthers.setCell _ _ _, (HK.it.mono (fun k e _ => .inl e)).setCell _ _ (fun _ => .inr rfl), fun e => h1 (by rw [hpx.it.1 e])⟩
  case done =>
    rintro D xs W hD hxs ⟨hk, hci, _⟩ hK
    subst hxs
    have t0 := E0.it.later hk (by omega)
    have t1 := E1.it.later hk (by omega)
    have u2 : W.cell? ⟨w.heap.size, 2, none⟩ = some (.slice a N c) := by rw [t0.cell]; rfl
    have u1 : W.cell? ⟨w.heap.size + 1, 0, none⟩ = some (.bool false) := by rw [t1.cell]; rfl
    have f1 := t1.frozen 0
    have ui : W.cell? ⟨w.heap.size + 1 + 1, 0, none⟩ = some (.int .i64 N) := by rw [hci.cell, HN.it]; rfl
    have HK : Aside _ := ⟨hk⟩
    have HKD : Aside _ := ⟨hK⟩
    clear hk hci t0 t1 hK hBk hB
    gi_wp2
    have hK' := (KeepsOthers.setCell W ⟨w.heap.size + 1, 0, none⟩ (.bool true)).same D _ HKD.it rfl
    refine ⟨by simp, .inl ⟨_, _, rfl, run_takeDeferred hK', ?_⟩⟩
    have hc5 := cell_kept (World.cell?_setCell_same' W ⟨w.heap.size + 1, 0, none⟩ (.bool true) (by rw [u1]; rfl)) (grownBy_putObj' _ D (.deferred none)) (fun r e => by cases e; exact ⟨_, hK', rfl⟩)
    refine ⟨.bool true, ?_, rfl, ⟨?_⟩⟩
    · simp [results, Tryd.f23, go_sem, hc5]
    · have k1 : Keeps (fun k => k = w.heap.size + 1 + 1 ∨ k = w.heap.size + 1 ∨ k = D) w5 ((W.setCell ⟨w.heap.size + 1, 0, none⟩ (.bool true)).putObj D (.deferred none)) :=
        keeps_grown' (((HK.it.mono (fun k e _ => .inl e)).setCell _ _ (fun _ => .inr (.inl rfl)))) (grownBy_putObj' _ D (.deferred none)) (fun r e => by cases e; exact .inr (.inr rfl))
      exact (K0.it.trans k5.it).next k1 (fun k e hlt' => by omega)
end Go.Proofs.YtnljgklmaljfjaaDoor
