/-
  culvertlaw03.Wipe over a list of numbers; two Handles and the document's, each in its box; lists by owners
-/
import Derived.Test.YtjloedcikcamkaaDoorHnW
import Derived.Test.YtjloedcikcamkaaDoorRowsS
namespace Go.Proofs.YtjloedcikcamkaaDoor
open Go.RowKit

section
variable {w w' : World} {xs : List Value} {v : Value} {n : Nat}
set_option maxHeartbeats 2000000 in
theorem wipe22 (x : Int) (h : w.ownsRow 0 3 1 v n xs) (hmax : n ≤ 2147483648) : Calls Tryd.prog 20 #[v, .int .i64 x] w fun e w' => e = .returned (.tuple #[]) ∧ Aside (Keeps (fun k => v.ownBlock = some k) w w') := by
  have H := Aside.mk h
  obtain ⟨a, c, hv, hcap⟩ : ∃ a c, v = .slice a n c ∧ n ≤ c := by
    rcases h.2 with ⟨h, h0⟩ | ⟨g', cap', cur, h, _, _, h1, _⟩
    · exact ⟨none, 0, by rw [h, h0], by omega⟩
    · exact ⟨_, _, h, h1⟩
  subst hv
  clear h
  go_enter Tryd.func20, Tryd.ntmps20
  go_wp2_with fail
  go_loopw [9] (fun iv wr => ∃ (m : Nat) (ys : List Value), iv = .int .i64 m ∧ m ≤ n ∧ Aside (wr.ownsRow 0 3 1 (.slice a n c) n ys ∧ Keeps (fun k => Value.ownBlock (.slice a n c) = some k) w wr)) (fun iv _ => n - natOf22 iv)
  case atStart => exact ⟨0, xs, rfl, Nat.zero_le _, ⟨H.it, Keeps.refl _ _⟩⟩
  case round =>
    obtain ⟨m, ys, rfl, hm, J⟩ := hrel
    by_cases hlt : m < n
    · have hlt' : (m : Int) < (n : Int) := by omega
      obtain ⟨g, rfl⟩ : ∃ g, a = some ⟨g, 0, none⟩ := by
        rcases J.it.1.2 with ⟨h, h0⟩ | ⟨g', cap', cur, h, _⟩
        · omega
        · injection h with h; exact ⟨g', h⟩
      obtain ⟨u, hu⟩ : ∃ u, wr.cell? ⟨g, m, none⟩ = some u := by
        have hl : m < ys.length := by have := J.it.1.1; omega
        have := J.it.1.cells rfl m ys[m] (List.getElem?_eq_getElem hl)
        rw [add_none, Nat.zero_add] at this
        exact ⟨_, this⟩
      have f1 := owns_frozen J.it.1 m
      go_wp2_with fail
      go_roundw
      case rel => exact ⟨m + 1, ys.set m (.int .i64 x), by go_num, by omega, ⟨owns_setCell J.it.1 m (by omega) (.int .i64 x), J.it.2.setCell ⟨g, m, none⟩ _ (fun _ => rfl)⟩⟩
      case measure => simp [natOf22]; omega
    · obtain rfl : m = n := by omega
      go_wp2_with fail
      go_loopw [5, 6] (fun lv iv wx => ∃ (j : Nat) (zs : List Value), iv = .int .i64 j ∧ j ≤ 80 ∧ Aside (wx.ownsRow 0 3 1 lv (m + j) zs ∧ (∀ b, lv.ownBlock = some b → Value.ownBlock (.slice a m c) = some b ∨ w.heap.size ≤ b) ∧ Keeps (fun k => Value.ownBlock (.slice a m c) = some k) w wx)) (fun _ iv _ => 80 - natOf22 iv)
      case atStart => exact ⟨0, ys, rfl, by omega, ⟨J.it.1, fun b hb => .inl hb, J.it.2⟩⟩
      case round =>
        clear J
        obtain ⟨j, zs, rfl, hj, J⟩ := hrel
        by_cases hlt : j < 80
        · have hlt' : (j : Int) < 80 := by omega
          go_wp2_with (at_builtin; refine wpList_appendR rfl (.tmp 22) (.tmp 24) 51 rfl 3 (.int .i64 0) 1 8 Tryd.underlying51 intinfo rfl (by decide) wr ((Keeps.refl _ _).alloc _) 0 _ _ _ J.it.1 _ 1 [.int .i64 x] (readsK_new _ _ _) (fun x hx => by rw [List.mem_singleton.1 hx]; rfl) (by omega) (by unfold maxLen; omega) (Nat.zero_le _) rfl rfl ?_; intro v' w' O' K' B')
          refine ⟨⟨j + 1, _, by go_num, by omega, ⟨O'.it, ?_, ?_⟩⟩, by simp [natOf22]; omega⟩
          · intro b hb
            rcases B'.it b hb with e | e
            · exact J.it.2.1 b e
            · have := J.it.2.2.size
              rw [World.size_alloc] at e
              exact .inr (by omega)
          · refine (J.it.2.2.alloc _).next K'.it (fun c e hc => ?_)
            rcases J.it.2.1 c e with e | e
            · exact e
            · omega
        · obtain rfl : j = 80 := by omega
          go_wp2_with fail
          go_end0
          exact ⟨rfl, ⟨J.it.2.2⟩⟩
end
variable {A : Nat → Addr} {w w' W : World} {own own' : Nat → Nat} {p g g0 p2 g2 h0 wb xb : Nat} {L L2 : Hl} {vt v ut u : Value} {I : Nat → Prop} {b q : Nat} {kd c l hh : Int} {d : Nat}
abbrev Rws := List (Nat × Value × List Int)
/-- two Handles and the document's, each in its box; lists of numbers by owners from 20 on -/
structure Po (A : Nat → Addr) (w : World) (own : Nat → Nat) (W : World) (p g : Nat) (L : Hl) (vt : Value) (wb g0 : Nat) (v : Value) (p2 g2 : Nat) (L2 : Hl) (ut : Value) (xb h0 : Nat) (u : Value) (R : Rws) : Prop where
  og : OnG A w own W
  t : Hp own 1 W p g L vt
  s : Hp own 2 W p2 g2 L2 ut
  c : CellsO own 8 W wb 28 [.int .i64 g0, v]
  e : CellsO own 8 W xb 28 [.int .i64 h0, u]
  n : wb ≠ xb
  r : ∀ x ∈ R, 20 ≤ x.1 ∧ OwR own x.1 W 3 1 x.2.1 x.2.2.length (x.2.2.map (Value.int .i64)) ∧ ∀ z ∈ x.2.2, -9223372036854775808 ≤ z ∧ z ≤ 9223372036854775807
variable {R : Rws}
theorem Po.sn (h : Po A w own W p g L vt wb g0 v p2 g2 L2 ut xb h0 u R) (s : Sn I own W own' w') (hi : ∀ k, I k → False) : Po A w own' w' p g L vt wb g0 v p2 g2 L2 ut xb h0 u R :=
  ⟨h.og.sn s (hi _), h.t.sn s (hi _) (hi _), h.s.sn s (hi _) (hi _), h.c.sn s (hi _), h.e.sn s (hi _), h.n, fun x hx => ⟨(h.r x hx).1, (h.r x hx).2.1.sn s (hi _), (h.r x hx).2.2⟩⟩
theorem Po.quiet (h : Po A w own W p g L vt wb g0 v p2 g2 L2 ut xb h0 u R) (hk : Keeps Nowhere W w') : Po A w own w' p g L vt wb g0 v p2 g2 L2 ut xb h0 u R := h.sn (I := fun _ => False) (Sn.same hk) (fun _ x => x)
theorem Po.step (h : Po A w own W p g L vt wb g0 v p2 g2 L2 ut xb h0 u R) (hk : Keeps Nowhere W w') (r : Nat) : Po A w (give own W.heap.size r) w' p g L vt wb g0 v p2 g2 L2 ut xb h0 u R := h.sn (I := fun _ => False) (Sn.quiet hk r) (fun _ x => x)
theorem Po.bel (h : Po A w own W p g L vt wb g0 v p2 g2 L2 ut xb h0 u R) : Keeps Nowhere w W := Keeps.ofBelow h.og.g.bel
theorem Po.cells (h : Po A w own W p g L vt wb g0 v p2 g2 L2 ut xb h0 u R) : W.cell? ⟨wb, 0, none⟩ = some (.int .i64 g0) ∧ W.cell? ⟨wb, 1, none⟩ = some v ∧ W.frozen? ⟨wb, 0, none⟩ = false ∧ W.frozen? ⟨wb, 1, none⟩ = false ∧ W.cell? ⟨xb, 0, none⟩ = some (.int .i64 h0) ∧ W.cell? ⟨xb, 1, none⟩ = some u ∧ W.frozen? ⟨xb, 0, none⟩ = false ∧ W.frozen? ⟨xb, 1, none⟩ = false :=
  ⟨by rw [h.c.1.cell]; rfl, by rw [h.c.1.cell]; rfl, h.c.1.frozen 0, h.c.1.frozen 1, by rw [h.e.1.cell]; rfl, by rw [h.e.1.cell]; rfl, h.e.1.frozen 0, h.e.1.frozen 1⟩
theorem Po.write1 (h : Po A w own W p g L vt wb g0 v p2 g2 L2 ut xb h0 u R) : Po A w own ((W.setCell ⟨wb, 0, none⟩ (.int .i64 g)).setCell ⟨wb, 1, none⟩ vt) p g L vt wb g vt p2 g2 L2 ut xb h0 u R := by
  have s8 : Sn (fun k => k = 8) own W own ((W.setCell ⟨wb, 0, none⟩ (.int .i64 g)).setCell ⟨wb, 1, none⟩ vt) := ⟨fun _ _ => rfl, ((Keeps.refl _ _).setCell _ _ (fun _ => h.c.2)).setCell _ _ (fun _ => h.c.2)⟩
  exact ⟨h.og.sn s8 (by decide), h.t.sn s8 (by decide) (by decide), h.s.sn s8 (by decide) (by decide), ⟨(h.c.1.setCell 0 (.int .i64 g)).setCell 1 vt, h.c.2⟩, ⟨(h.e.1.setOther _ _ (fun e => h.n e.symm)).setOther _ _ (fun e => h.n e.symm), h.e.2⟩, h.n, fun x hx => ⟨(h.r x hx).1, (h.r x hx).2.1.sn s8 (by have := (h.r x hx).1; omega), (h.r x hx).2.2⟩⟩
theorem Po.write2 (h : Po A w own W p g L vt wb g0 v p2 g2 L2 ut xb h0 u R) : Po A w own ((W.setCell ⟨xb, 0, none⟩ (.int .i64 g2)).setCell ⟨xb, 1, none⟩ ut) p g L vt wb g0 v p2 g2 L2 ut xb g2 ut R := by
  have s8 : Sn (fun k => k = 8) own W own ((W.setCell ⟨xb, 0, none⟩ (.int .i64 g2)).setCell ⟨xb, 1, none⟩ ut) := ⟨fun _ _ => rfl, ((Keeps.refl _ _).setCell _ _ (fun _ => h.e.2)).setCell _ _ (fun _ => h.e.2)⟩
  exact ⟨h.og.sn s8 (by decide), h.t.sn s8 (by decide) (by decide), h.s.sn s8 (by decide) (by decide), ⟨(h.c.1.setOther _ _ h.n).setOther _ _ h.n, h.c.2⟩, ⟨(h.e.1.setCell 0 (.int .i64 g2)).setCell 1 ut, h.e.2⟩, h.n, fun x hx => ⟨(h.r x hx).1, (h.r x hx).2.1.sn s8 (by have := (h.r x hx).1; omega), (h.r x hx).2.2⟩⟩
theorem Po.op (o : OpAt w b q kd c l d hh) (h : Po A w own W p g L vt wb g0 v p2 g2 L2 ut xb h0 u R) : W.cell? ⟨b, q, none⟩ = some (.int .i64 kd) ∧ W.cell? ⟨b, q + 1, none⟩ = some (.int .i64 c) ∧ W.cell? ⟨b, q + 2, none⟩ = some (.int .i64 l) ∧ W.cell? ⟨b, q + 3, none⟩ = some (.int .u32 (d : Nat)) ∧ W.cell? ⟨b, q + 4, none⟩ = some (.int .i64 hh) := (o.later h.bel).2
theorem po_step1 (h : Aside (Po A w own W p g L v wb g v p2 g2 L2 ut xb h0 u [])) (hw : (⟨c, l, d⟩ : Pl).Wide) (hz : Zw hh) (hg : g < 2147483648) : Calls Tryd.prog 10 #[ptr p, .agg #[.int .i64 g, v], .agg #[.int .i64 kd, .int .i64 c, .int .i64 l, .int .u32 (d : Nat), .int .i64 hh]] W fun e w' => ∃ (g6 : Nat) (qa : Option Addr) (ql qc : Nat) (L6 : Hl) (own6 : Nat → Nat), e = .returned (.tuple #[.agg #[.int .i64 g6, .slice qa ql qc], .bool true]) ∧ Aside (g6 ≤ g + 1) ∧ Aside (Po A w own6 w' p g6 L6 (.slice qa ql qc) wb g v p2 g2 L2 ut xb h0 u []) := by
  refine (step22 own W h.it.og h.it.t kd ⟨c, l, d⟩ hh hw hz (by decide) hg).mono ?_
  rintro e w' ⟨g6, v6, L6, own6, rfl, X6⟩
  obtain ⟨qa, qc, hq, _⟩ := X6.it.1.d.shape
  subst hq
  exact ⟨g6, qa, _, qc, L6, own6, rfl, ⟨X6.it.2.1⟩, ⟨h.it.og.sn X6.it.2.2 (by decide), X6.it.1, h.it.s.sn X6.it.2.2 (by decide) (by decide), h.it.c.sn X6.it.2.2 (by decide), h.it.e.sn X6.it.2.2 (by decide), h.it.n, fun x hx => (by cases hx)⟩⟩
theorem po_step2 (h : Aside (Po A w own W p g L vt wb g0 v p2 g2 L2 u xb g2 u [])) (hw : (⟨c, l, d⟩ : Pl).Wide) (hz : Zw hh) (hg : g2 < 2147483648) : Calls Tryd.prog 10 #[ptr p2, .agg #[.int .i64 g2, u], .agg #[.int .i64 kd, .int .i64 c, .int .i64 l, .int .u32 (d : Nat), .int .i64 hh]] W fun e w' => ∃ (g6 : Nat) (qa : Option Addr) (ql qc : Nat) (L6 : Hl) (own6 : Nat → Nat), e = .returned (.tuple #[.agg #[.int .i64 g6, .slice qa ql qc], .bool true]) ∧ Aside (g6 ≤ g2 + 1) ∧ Aside (Po A w own6 w' p g L vt wb g0 v p2 g6 L6 (.slice qa ql qc) xb g2 u []) := by
  refine (step22 own W h.it.og h.it.s kd ⟨c, l, d⟩ hh hw hz (by decide) hg).mono ?_
  rintro e w' ⟨g6, v6, L6, own6, rfl, X6⟩
  obtain ⟨qa, qc, hq, _⟩ := X6.it.1.d.shape
  subst hq
  exact ⟨g6, qa, _, qc, L6, own6, rfl, ⟨X6.it.2.1⟩, ⟨h.it.og.sn X6.it.2.2 (by decide), h.it.t.sn X6.it.2.2 (by decide) (by decide), X6.it.1, h.it.c.sn X6.it.2.2 (by decide), h.it.e.sn X6.it.2.2 (by decide), h.it.n, fun x hx => (by cases hx)⟩⟩
/-- a list more -/
theorem Po.more (h : Po A w own W p g L vt wb g0 v p2 g2 L2 ut xb h0 u R) (hk : Keeps Nowhere W w') {r : Value} {zs : List Int} (hr : RwI W w' r zs) (hz : ∀ z ∈ zs, -9223372036854775808 ≤ z ∧ z ≤ 9223372036854775807) (o : Nat) (ho : 20 ≤ o) : Po A w (give own W.heap.size o) w' p g L vt wb g0 v p2 g2 L2 ut xb h0 u ((o, r, zs) :: R) := by
  have k := h.step hk o
  refine { k with r := fun x hx => ?_ }
  rcases List.mem_cons.1 hx with rfl | hx
  · exact ⟨ho, OwR.new hr, hz⟩
  · exact k.r x hx
theorem po_on (h : Aside (Po A w own W p g L vt wb g0 v p2 g2 L2 ut xb h0 u R)) (c l : Int) (o : Nat) (ho : 20 ≤ o) : Calls Tryd.prog 18 #[ptr p, .int .i64 c, .int .i64 l] W fun e w' => ∃ r own2, e = .returned r ∧ Aside (Po A w own2 w' p g L vt wb g0 v p2 g2 L2 ut xb h0 u ((o, r, honL L c l) :: R)) := by
  refine (on_at h.it.t.t c l).mono ?_
  rintro e w' ⟨r, rfl, X, K⟩
  exact ⟨r, _, rfl, ⟨h.it.more K.it X.it (hon_bounds h.it.t.t.ok c l) o ho⟩⟩
theorem po_don {G : Int} (h : Aside (Po A w own W p g L vt wb g0 v p2 g2 L2 ut xb h0 u R)) (c l : Int) (o : Nat) (ho : 20 ≤ o) : Calls Tryd.prog 19 #[.agg #[.int .i64 G, vt], .int .i64 c, .int .i64 l] W fun e w' => ∃ r own2, e = .returned r ∧ Aside (Po A w own2 w' p g L vt wb g0 v p2 g2 L2 ut xb h0 u ((o, r, honL L c l) :: R)) := by
  refine (don h.it.t.d (Nat.le_trans h.it.t.t.ok.len h.it.t.t.ok.m) c l).mono ?_
  rintro e w' ⟨r, rfl, X, K⟩
  exact ⟨r, _, rfl, ⟨h.it.more K.it X.it (hon_bounds h.it.t.t.ok c l) o ho⟩⟩
theorem Po.rd (h : Po A w own W p g L vt wb g0 v p2 g2 L2 ut xb h0 u R) {o : Nat} {r : Value} {zs : List Int} (hm : (o, r, zs) ∈ R) : RdI W r zs := owns_rdI (h.r _ hm).2.1.1 (h.r _ hm).2.2
theorem po_same (h : Aside (Po A w own W p g L vt wb g0 v p2 g2 L2 ut xb h0 u R)) {a c : Value} {l : List Int} {o1 o2 : Nat} (ha : (o1, a, l) ∈ R) (hc : (o2, c, l) ∈ R) : Calls Tryd.prog 21 #[a, c] W fun e w' => e = .returned (.bool true) ∧ Aside (Po A w own w' p g L vt wb g0 v p2 g2 L2 ut xb h0 u R) := by
  refine (same_ints22 a c l (h.it.rd ha) (h.it.rd hc)).mono ?_
  rintro e w' ⟨rfl, K⟩
  exact ⟨rfl, ⟨h.it.quiet K.it⟩⟩
/-- one of the lists is written over: the others stand -/
theorem po_wipe (h : Aside (Po A w own W p g L vt wb g0 v p2 g2 L2 ut xb h0 u R)) (x : Int) {o : Nat} {r : Value} {zs : List Int} (hm : (o, r, zs) ∈ R) (hz : zs.length ≤ 2147483648) (R' : Rws) (hR : ∀ y ∈ R', y ∈ R ∧ y.1 ≠ o) : Calls Tryd.prog 20 #[r, .int .i64 x] W fun e w' => e = .returned (.tuple #[]) ∧ Aside (Po A w own w' p g L vt wb g0 v p2 g2 L2 ut xb h0 u R') := by
  obtain ⟨ho, hw, _⟩ := h.it.r _ hm
  refine (wipe22 x hw.1 hz).mono ?_
  rintro e w' ⟨rfl, K⟩
  have s : Sn (fun k => k = o) own W own w' := ⟨fun _ _ => rfl, K.it.mono (fun k e _ => (hw.2 k e).1)⟩
  have n : ∀ k : Nat, k < 20 → ¬ k = o := fun k hk e => by simp only at ho; omega
  refine ⟨rfl, ⟨h.it.og.sn s (n 0 (by decide)), h.it.t.sn s (n 1 (by decide)) (n 9 (by decide)), h.it.s.sn s (n 2 (by decide)) (n 9 (by decide)), h.it.c.sn s (n 8 (by decide)), h.it.e.sn s (n 8 (by decide)), h.it.n, fun y hy => ?_⟩⟩
  obtain ⟨h1, h2⟩ := hR y hy
  exact ⟨(h.it.r y h1).1, (h.it.r y h1).2.1.sn s h2, (h.it.r y h1).2.2⟩
theorem Po.none (h : Po A w own W p g L vt wb g0 v p2 g2 L2 ut xb h0 u R) : Po A w own W p g L vt wb g0 v p2 g2 L2 ut xb h0 u [] := { h with r := fun x hx => (by cases hx) }
end Go.Proofs.YtjloedcikcamkaaDoor
