/-
  package pipe: Cut, Put
-/
import Derived.Test.YtpmmjekaefemeaaDoorPpD
import Derived.Deep.RegionHeld3
namespace Go.Proofs.YtpmmjekaefemeaaDoor
open Go.RowKit

section
variable {own own' : Nat → Nat} {w w' W : World} {rs : List (List Int)} {r r0 L b : List Int} {I : Nat → Prop} {i d p qp gone ps : Nat} {q : List El19} {bg : Value} {cut : Bool}

/-- the box' own cells are set -/
theorem cut_end {c0 c1 c2 : Value} (hp : ps < 18446744073709551616) (h : CellsO own (i + 1) w p 60 [c0, c1, c2, .int .u64 ps, .bool cut]) :
    PpO own i ((((w.setCell ⟨p, 0, none⟩ (.slice none 0 0)).setCell ⟨p, 1, none⟩ (.int .i64 0)).setCell ⟨p, 2, none⟩ (.pointer none)).setCell ⟨p, 4, none⟩ (.bool true)) p [] ps true ∧ Sn (fun k => k = i + 1) own w own ((((w.setCell ⟨p, 0, none⟩ (.slice none 0 0)).setCell ⟨p, 1, none⟩ (.int .i64 0)).setCell ⟨p, 2, none⟩ (.pointer none)).setCell ⟨p, 4, none⟩ (.bool true)) :=
  ⟨.inl ⟨rfl, rfl, ⟨(((h.1.setCell 0 (.slice none 0 0)).setCell 1 (.int .i64 0)).setCell 2 (.pointer none)).setCell 4 (.bool true), h.2⟩, hp⟩, ⟨fun _ _ => rfl, ((((Keeps.refl _ _).setCell _ _ (fun _ => h.2)).setCell _ _ (fun _ => h.2)).setCell _ _ (fun _ => h.2)).setCell _ _ (fun _ => h.2)⟩⟩
theorem cut19 (h : PpO own i w p L ps cut) (hL : L.length ≤ 2199023255551) : Calls Tryd.prog 17 #[ptr p] w fun e w' => e = .returned (.int .i64 L.length) ∧ Aside (PpO own i w' p [] ps true ∧ Sn (fun k => k = i + 1) own w own w') := by
  have LN := Aside.mk (len19 h hL)
  have H := Aside.mk h
  obtain ⟨N, hN⟩ : ∃ N, L.length = N := ⟨_, rfl⟩
  rw [hN] at LN ⊢
  clear h hL hN
  go_enter Tryd.func17, Tryd.ntmps17
  go_upto_region 4 with (go_at_call 13; refine LN.it.mono ?_; rintro e w1 ⟨rfl, K1⟩)
  obtain ⟨c0, c1, c2, HC⟩ : ∃ c0 c1 c2, Aside (CellsO own (i + 1) w1 p 60 [c0, c1, c2, .int .u64 ps, .bool cut]) := by
    rcases H.it.quiet K1.it with ⟨rfl, _, c⟩ | ⟨rfl, qp, q, bg, r0, rs, gone, h, _⟩
    · exact ⟨_, _, _, ⟨c.1⟩⟩
    · exact ⟨_, _, _, ⟨h.box⟩⟩
  have d0 : w1.cell? ⟨p, 0, none⟩ = some c0 := by rw [HC.it.1.cell]; rfl
  have d1 : w1.cell? ⟨p, 1, none⟩ = some c1 := by rw [HC.it.1.cell]; rfl
  have d2 : w1.cell? ⟨p, 2, none⟩ = some c2 := by rw [HC.it.1.cell]; rfl
  have d4 : w1.cell? ⟨p, 4, none⟩ = some (.bool cut) := by rw [HC.it.1.cell]; rfl
  have f0 := HC.it.1.frozen 0
  have f1 := HC.it.1.frozen 1
  have f2 := HC.it.1.frozen 2
  have f4 := HC.it.1.frozen 4
  clear LN
  go_wp2_with fail
  go_ret
  obtain ⟨x1, x2⟩ := cut_end H.it.p64 HC.it
  exact ⟨rfl, ⟨x1, (Sn.same K1.it).trans x2⟩⟩

theorem put_cut19 (h : PpO own i w p L ps true) (x er : Value) (hc : w.cell? ⟨1, 0, none⟩ = some er) : Calls Tryd.prog 11 #[ptr p, x] w fun e w' => e = .returned (.tuple #[.int .i64 0, er]) ∧ Aside (Keeps Nowhere w w') := by
  have c4 : w.cell? ⟨p, 4, none⟩ = some (.bool true) := by
    rcases h with ⟨_, _, c⟩ | ⟨h, _⟩
    · exact c.cells.2.2.2.2.1
    · cases h
  clear h
  go_enter Tryd.func11, Tryd.ntmps11
  go_wp2_with fail
  go_region_held_law (fun w' => w'.cell? ⟨1, 0, none⟩ = some er) (exact hc) (fail)
  go_wp2
  go_ret2
  exact ⟨rfl, ⟨(Keeps.refl _ _).drew⟩⟩
theorem put_none19 (h : PpO own i w p L ps false) (a : Option Addr) (c : Nat) : Calls Tryd.prog 11 #[ptr p, .slice a 0 c] w fun e w' => e = .returned (.tuple #[.int .i64 0, .nilIface]) ∧ Aside (Keeps Nowhere w w') := by
  have c4 : w.cell? ⟨p, 4, none⟩ = some (.bool false) := by
    rcases h with ⟨h, _⟩ | ⟨_, qp, q, bg, r0, rs, gone, h, _⟩
    · cases h
    · exact h.cells.2.2.2.2.1
  clear h
  go_enter Tryd.func11, Tryd.ntmps11
  go_wp2
  go_ret2
  exact ⟨rfl, ⟨Keeps.refl _ _⟩⟩
theorem PpI.c2 (h : Aside (PpI own i w p qp q bg r0 rs gone ps)) : w.cell? ⟨p, 2, none⟩ = some (ptr qp) := h.it.cells.2.2.1
theorem put_end {g c B : Nat} {W1 w2 w3 : World} (h : PpI own i W1 p qp q bg r0 rs gone ps) (X : Nw W1 w2 (.slice (some ⟨g, 0, none⟩) B c) b) (hB : b.length = B) (hn : b ≠ [])
    (hf : Fbs.FifoO (give (give own W1.heap.size (i + 2)) w2.heap.size i) i w3 qp maxI maxI (q ++ [((g, B, c), B)])) (hk : Keeps (fun k => give own W1.heap.size (i + 2) k = i) w2 w3) :
    PpL (give (give own W1.heap.size (i + 2)) w2.heap.size i) i w3 p ((r0 ++ rs.flatten) ++ b) ps ∧ Sn (fun k => k = i) own W1 (give (give own W1.heap.size (i + 2)) w2.heap.size i) w3 ∧ w3.cell? ⟨p, 2, none⟩ = some (ptr qp) := by
  have s1 : Sn (fun _ => False) own W1 (give own W1.heap.size (i + 2)) w2 := Sn.quiet X.k (i + 2)
  have s2 : Sn (fun k => k = i) (give own W1.heap.size (i + 2)) w2 (give (give own W1.heap.size (i + 2)) w2.heap.size i) w3 := Sn.by hk i
  have h2 := h.sn s1 (fun x => x) (fun x => x) (fun x => x)
  refine ⟨⟨qp, _, bg, r0, rs ++ [b], gone, ⟨h2.box.sn s2 (by omega), hf, h2.bg.sn s2 (by omega), ?_, h.gl, h.p64⟩, by simp⟩, (s1.mono (fun _ x => x.elim)).trans s2, by rw [(h2.box.sn s2 (by omega)).1.cell]; rfl⟩
  have := (h2.pcs.snoc (g, B, c) hn (X.rowB own (i + 2)).rdO).sn s2 (by omega)
  rw [hB] at this
  exact this
set_option maxHeartbeats 1000000 in
theorem put_some19 (h : PpL own i w p L ps) {a : Option Addr} {B c : Nat} (hr : Rd w (.slice a B c) b) (hn : b ≠ []) (hB : b.length = B) (hL : L.length + B ≤ 2199023255551) :
    Calls Tryd.prog 11 #[ptr p, .slice a B c] w fun e w' => ∃ own', e = .returned (.tuple #[.int .i64 B, .nilIface]) ∧ Aside (PpL own' i w' p (L ++ b) ps ∧ Sn (fun k => k = i) own w own' w') := by
  obtain ⟨qp, q, bg, r0, rs, gone, h, rfl⟩ := h
  have c2 := h.cells.2.2.1
  have c4 := h.cells.2.2.2.2.1
  have hB1 : ((B : Int) == 0) = false := beq_eq_false_iff_ne.2 (by have := List.length_pos_iff.2 hn; omega)
  have KA : Aside (Keeps Nowhere w (w.alloc (.cells #[.slice a B c] 26)).drew) := ⟨((Keeps.refl _ _).alloc _).drew⟩
  have H := Aside.mk h
  have HA := Aside.mk (h.quiet KA.it)
  have HD := Aside.mk (h.quiet (Keeps.refl Nowhere w).drew)
  have JN := Aside.mk (join_one (W := (w.alloc (.cells #[.slice a B c] 26)).drew) hr hn (by rw [List.length_append] at hL; omega) rfl (Keeps.refl _ _).drew)
  rw [hB] at JN
  have hsm := h.sum
  have PT := Aside.mk (fun (W : World) (own : Nat → Nat) (g c' : Nat) (hf : Fbs.FifoO own i W qp maxI maxI q) => Fbs.put_o hf (g, B, c') B (by have := hsm.2; rw [List.length_append] at hL; show _ < 9223372036854775807; omega) (by have := hsm.1; rw [List.length_append] at hL; show _ ≤ 9223372036854775807; omega) (by have := hsm.2; rw [List.length_append] at hL; omega))
  have HN := Aside.mk hn
  have HB := Aside.mk hB
  clear h hsm hn hB hL hr
  go_enter Tryd.func11, Tryd.ntmps11
  go_upto_region 7 with fail
  clear c4
  go_region_held3 (fun W => W.cell? ⟨p, 2, none⟩ = some (ptr qp)) (first | with_reducible exact PpI.c2 (by with_reducible assumption) | with_reducible exact H3.it.2.2) (first
    | (go_at_call 28; with_reducible refine JN.it.mono ?_; clear JN; rintro e w2 ⟨g, c', rfl, X2⟩; have H2 := Aside.mk (HA.it.sn (I := fun _ => False) (Sn.quiet X2.it.k (i + 2)) (fun x => x) (fun x => x) (fun x => x)); have P2 := Aside.mk (PT.it w2 _ g c' H2.it.fifo))
    | (go_at_call 27; refine P2.it.mono ?_; clear P2; rintro e w3 ⟨rfl, F3, K3⟩; have H3 := Aside.mk (put_end HA.it X2.it HB.it HN.it F3.it K3.it)))
  go_wp2_with fail
  go_ret2
  exact ⟨_, rfl, ⟨H3.it.1, (Sn.same KA.it).trans H3.it.2.1⟩⟩
end
end Go.Proofs.YtpmmjekaefemeaaDoor
