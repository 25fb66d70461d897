/-
  FifoNil
-/
import Derived.Test.YtgfgnabjffokjaaDoorWakes
import Derived.Test.YtgfgnabjffokjaaDoorFifoNint
import Derived.Test.YtgfgnabjffokjaaDoorOpen
import Derived.Lib.SmallJoins
namespace Go.Proofs.YtgfgnabjffokjaaDoor
open Go.ChangeShapes Go.WideShapes Go.RowKit Go.Shelf Go.Deep Fint

structure OpZ where
  kind : Int
  v : Int
  w : Int
  a : Option Addr
  l : Nat
  c : Nat
def OpArg (_ : World) (v : Value) (o : OpZ) : Prop := v = .agg #[.int .i64 o.kind, .int .i64 o.v, .int .i64 o.w, .slice o.a o.l o.c]

set_option maxRecDepth 100000 in
theorem op_open {H : Type} {enc : TypeId × Value → H} {r : Reach} {b0 : Nat} {w : World} {base : Nat} {spare : Nat → Bool} {held : Bool} {v : Value} {d : DataW H} {p : List MemPlace} (hv : Value.okWide Tryd.prog w r b0 41 v)
    (h : DataW.Trod enc Tryd.prog w base spare held 41 v d p) : ∃ o, OpArg w v o := by
  obtain ⟨v0, v1, v2, v3, y0, y1, y2, y3, n, rfl, _, _, h0, h1, h2, h3⟩ := Go.Joins.open_agg4 (P := Tryd.prog) (t := 41) Tryd.underlying41 (by kernel_rfl) (by kernel_rfl) hv h
  obtain ⟨z0, rfl, _⟩ := open_int1 Tryd.underlying3 h0
  obtain ⟨z1, rfl, _⟩ := open_int1 Tryd.underlying3 h1
  obtain ⟨z2, rfl, _⟩ := open_int1 Tryd.underlying3 h2
  obtain ⟨ns, ⟨a, c, rfl, _⟩, _⟩ := open_ints1 Tryd.underlying39 Tryd.underlying3 (by kernel_rfl) h3
  exact ⟨⟨z0, z1, z2, a, _, c⟩, rfl⟩

theorem fifoNil_walk {A : Nat → Addr} (v : Value) (o : OpZ) (w : World) (hs : Sents 133 codeVars A w) (ho : OpArg w v o) :
    Calls Tryd.prog 7 #[v] w fun e w' => e = .returned (.bool true) ∧ Below w.heap.size w w' := by
  obtain ⟨kind, x, n, a, l, c⟩ := o
  have ho' : v = .agg #[.int .i64 kind, .int .i64 x, .int .i64 n, .slice a l c] := ho
  subst ho'
  clear ho
  obtain ⟨W0, hW0⟩ : ∃ W0, W0 = (w.alloc (.cells #[.int .i64 kind, .int .i64 x, .int .i64 n, .slice a l c] 41)).alloc (.cells #[.bool false] 4) := ⟨_, rfl⟩
  have KW : Aside (Keeps Nowhere w W0) := ⟨by rw [hW0]; exact ((Keeps.refl _ _).alloc _).alloc _⟩
  have HS : Aside (Sents 133 codeVars A W0) := ⟨hs.later KW.it.bel⟩
  clear hs
  refine (callsIn_wide (n := 3)).1 ?_
  refine callsIn_of_wp_marks Tryd.func7 rfl trivial ?_ rfl
  simp only [Tryd.ntmps7, List.size_toArray, List.length_cons, List.length_nil, Nat.reduceAdd, Nat.reduceSub, Array.replicate_succ, Array.replicate_zero, List.push_toArray, List.append_toArray, List.nil_append, List.cons_append]
  gi_wp2_with fail
  rw [← hW0]
  refine ⟨trivial, ?_⟩
  refine (callsIn_wide.2 (wakes_ok W0 HS.it)).mono ?_
  rintro e w1 ⟨rfl, k1⟩
  gi_wp2_with fail
  refine ⟨trivial, ?_⟩
  refine (callsIn_wide.2 (remove_nil _ _ _ _)).mono ?_
  rintro e w2 ⟨rfl, hw2⟩
  have C2 : Aside (Cells w2 (w.heap.size + 1) 4 [.bool false] ∧ Cells w2 w.heap.size 41 [.int .i64 kind, .int .i64 x, .int .i64 n, .slice a l c] ∧ Cells w2 w1.heap.size 4 [.bool false] ∧ Keeps Nowhere W0 w2) := ⟨by
    have kk : Keeps Nowhere W0 w2 := by rw [hw2]; exact (Keeps.ofBelow k1.it).alloc _
    refine ⟨?_, ?_, ?_, kk⟩
    · refine Cells.later (S := Nowhere) ?_ kk (fun x => x)
      rw [hW0]
      have h := Cells.new (w.alloc (.cells #[.int .i64 kind, .int .i64 x, .int .i64 n, .slice a l c] 41)) 4 [.bool false]
      rw [World.size_alloc] at h
      exact h
    · refine Cells.later (S := Nowhere) ?_ kk (fun x => x)
      rw [hW0]
      exact (Cells.new w 41 [.int .i64 kind, .int .i64 x, .int .i64 n, .slice a l c]).later (S := Nowhere) ((Keeps.refl _ _).alloc _) (fun x => x)
    · rw [hw2]
      exact Cells.new w1 4 [.bool false]⟩
  clear hw2 k1
  gi_wp2_with fail
  refine ⟨trivial, ?_⟩
  refine (callsIn_wide.2 (get_nil _)).mono ?_
  rintro e w3 ⟨rfl, k3⟩
  have K3 : Aside _ := ⟨k3⟩
  clear k3
  gi_wp2_with fail
  refine ⟨trivial, ?_⟩
  refine (callsIn_wide.2 (head_nil _)).mono ?_
  rintro e w4 ⟨rfl, k4⟩
  have K4 : Aside _ := ⟨k4⟩
  clear k4
  gi_wp2_with fail
  refine ⟨trivial, ?_⟩
  refine (callsIn_wide.2 (all_nil _)).mono ?_
  rintro e w5 ⟨b, rfl, W5, k5⟩
  have nn := walk_not_nil w5 b
  gi_wp2_with fail
  obtain ⟨B, hB, hBk⟩ := W5.it.kept 2 (by decide) (Nat.zero_le _)
  refine wpIn_rangeFunc_ownF rfl (by decide) (gf := 49) (lb := #[.pointer (some ⟨b, 0, none⟩)]) rfl trivial (enters_of Tryd.func49 (by kernel_rfl) rfl)
    hB kept_t (kept_b (fun k hk => (hBk k hk).2)) (Below.refl _ _) (fun _ => rfl) (fun _ W => Keeps Nowhere w5 W) (fun _ _ _ => False) (ownFrom_keeps _ _) (fun _ _ _ _ _ h _ _ => h) (Keeps.refl _ _) ?a1 ?assign ?body ?done ?stop
  case assign =>
    intro l x W K hK
    gi_wp2
    exact hK
  case body =>
    intro l pre x W _ hlt
    exact absurd hlt (by simp)
  case stop =>
    intro D c pre W _ _ h
    exact h.elim
  case done =>
    rintro D xs W hD hxs hI hK
    have K5 : Aside (Keeps Nowhere W0 W) := ⟨((((C2.it.2.2.2.trans K3.it).trans K4.it).trans k5.it).trans hI)⟩
    have c0 := ((((C2.it.1.later K3.it (fun x => x)).later K4.it (fun x => x)).later k5.it (fun x => x)).later hI (fun x => x))
    have c1 := ((((C2.it.2.1.later K3.it (fun x => x)).later K4.it (fun x => x)).later k5.it (fun x => x)).later hI (fun x => x))
    have c2 := ((((C2.it.2.2.1.later K3.it (fun x => x)).later K4.it (fun x => x)).later k5.it (fun x => x)).later hI (fun x => x))
    have C0 : Aside _ := ⟨c0⟩
    have d2 : W.cell? ⟨w1.heap.size, 0, none⟩ = some (.bool false) := by rw [c2.cell]; rfl
    have d10 : W.cell? ⟨w.heap.size, 1, none⟩ = some (.int .i64 x) := by rw [c1.cell]; rfl
    have d11 : W.cell? ⟨w.heap.size, 2, none⟩ = some (.int .i64 n) := by rw [c1.cell]; rfl
    have d0 : W.cell? ⟨w.heap.size + 1, 0, none⟩ = some (.bool false) := by rw [c0.cell]; rfl
    have f0 := c0.frozen 0
    have HK : Aside _ := ⟨hK⟩
    have C5 : Aside (w.heap.size + 1 < w5.heap.size) := ⟨(((C2.it.1.later K3.it (fun x => x)).later K4.it (fun x => x)).later k5.it (fun x => x)).lt⟩
    clear c0 c1 c2 C2 K3 K4 k5 hI nn hB hBk hK
    gi_wp2_with fail
    refine ⟨trivial, ?_⟩
    refine (callsIn_wide.2 (len_nil _)).mono ?_
    rintro e w6 ⟨rfl, rfl⟩
    gi_wp2_with fail
    refine ⟨trivial, ?_⟩
    refine (callsIn_wide.2 (weight_nil _)).mono ?_
    rintro e w7 ⟨rfl, rfl⟩
    gi_wp2_with fail
    refine ⟨trivial, ?_⟩
    refine (callsIn_wide.2 (remove_none _ _)).mono ?_
    rintro e w8 ⟨rfl, rfl⟩
    gi_wp2_with fail
    refine ⟨trivial, ?_⟩
    have HSW : Aside _ := ⟨HS.it.later K5.it.bel⟩
    refine (callsIn_wide.2 (put_nil _ x n _ (HSW.it.cell 0 _ rfl))).mono ?_
    rintro e w9 ⟨rfl, k9⟩
    have K9 : Aside _ := ⟨k9⟩
    clear k9
    gi_wp2_with fail
    refine ⟨trivial, ?_⟩
    refine (callsIn_wide.2 (code_of (HSW.it.later K9.it.bel) (Coded.mk 0 1 (by decide) (by decide) rfl))).mono ?_
    rintro e w10 ⟨rfl, rfl⟩
    have g0 := C0.it.later K9.it (fun x => x)
    have e0 : w10.cell? ⟨w.heap.size + 1, 0, none⟩ = some (.bool false) := by rw [g0.cell]; rfl
    have e1 := g0.frozen 0
    have G0 : Aside _ := ⟨g0⟩
    have HK2 : Aside (w10.heap[D]? = some (.deferred (some []))) := ⟨(K9.it.block D (Array.getElem?_eq_some_iff.1 HK.it).1 (fun x => x)).trans HK.it⟩
    clear g0 d0 f0
    gi_wp2
    have hK' := (KeepsOthers.setCell w10 ⟨w.heap.size + 1, 0, none⟩ (.bool true)).same D _ HK2.it rfl
    refine ⟨by simp, .inl ⟨_, _, rfl, run_takeDeferred hK', ?_⟩⟩
    have hc5 := cell_kept (World.cell?_setCell_same' w10 ⟨w.heap.size + 1, 0, none⟩ (.bool true) (by rw [e0]; rfl)) (grownBy_putObj' _ D (.deferred none)) (fun r e => by cases e; exact ⟨_, hK', rfl⟩)
    have hsz : w.heap.size ≤ D := Nat.le_trans (Nat.le_trans (Nat.le_of_lt (Nat.lt_of_succ_lt C5.it)) (Nat.le_refl _)) hD
    refine ⟨.bool true, ?_, rfl, ?_⟩
    · simp [results, Tryd.f7, go_sem, hc5]
    · have h1 : Below w.heap.size w w10 := (KW.it.trans (K5.it.trans K9.it)).bel
      exact (h1.setCell (p := ⟨w.heap.size + 1, 0, none⟩) (by simp) _).trans (belowK_b (w := w) (Nat.le_refl _) _ D _ _ hsz hK' rfl rfl)
end Go.Proofs.YtgfgnabjffokjaaDoor
