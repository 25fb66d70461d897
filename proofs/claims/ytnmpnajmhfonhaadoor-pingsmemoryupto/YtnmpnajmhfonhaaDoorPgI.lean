/-
  PingsMemory: appends in its world
-/
import Derived.Test.YtnmpnajmhfonhaaDoorPgG
namespace Go.Proofs.YtnmpnajmhfonhaaDoor
open Go.RowKit

variable {A : Nat → Addr} {w w' w0 W : World} {own own' : Nat → Nat} {l L : List Nat} {x v v' v2 v3 v4 av gv : Value} {vs ys : List Value} {f : Nat → List Nat} {nn : Nat → Nat} {m : Pm} {wb k : Nat} {I : Nat → Prop}

theorem slice_len {base k n : Nat} {e : TypeId} {u : Value} {zs : List Value} (h : w.ownsRow base e k u n zs) : ∃ a c, u = .slice a n c := by
  rcases h.2 with ⟨rfl, h0⟩ | ⟨g, cap, cur, rfl, _⟩
  · exact ⟨none, 0, by rw [h0]⟩
  · exact ⟨_, _, rfl⟩
theorem Lm.pushRun (h : Lm A w0 x m v2 v3 v4 wb av vs f nn gv ys own w) (hX : XA own w vs.length v l) (hv : v.oneCell' = true) (hb : vs.length ≤ 1048576) : ∃ (a : Option Addr) (c : Nat) (w' : World) (own' : Nat → Nat), (∀ ty, (Builtin.append_ #[50, 50] ty #[av, .slice (some ⟨w.heap.size, 0, none⟩) 1 1]).run Tryd.prog (w.alloc (.cells #[v] 29)) = .ok (.slice a (vs.length + 1) c) w') ∧ Aside (Lm A w0 x m v2 v3 v4 wb (.slice a (vs.length + 1) c) (vs ++ [v]) (fun j => if j = vs.length then l else f j) nn gv ys own' w') := by
  obtain ⟨i, hi, hz0, hz1, hz2⟩ := info_parts infoS
  have K : Keeps Nowhere w (w.alloc (.cells #[v] 29)) := (Keeps.refl _ _).alloc _
  obtain ⟨u, w', run, o', sp⟩ := run_appendS (P := Tryd.prog) (w.alloc (.cells #[v] 29)) 50 29 i _ 1 24 Tryd.underlying50 hi hz0 hz1 hz2 rfl (by decide) av vs.length vs (owns_later h.all.1 K (fun _ _ x => x)) (.slice (some ⟨w.heap.size, 0, none⟩) 1 1) 1 [v] (by decide) (reads_one w v) (by simp [hv]) (by omega) (by unfold maxLen; omega)
  obtain ⟨a, c, rfl⟩ := slice_len o'
  exact ⟨a, c, w', _, run, ⟨h.push hX K o' sp⟩⟩
theorem Lm.gpushRun (h : Lm A w0 x m v2 v3 v4 wb av vs f nn gv ys own w) (hX : XA own w ys.length v (r90 (nn ys.length) ys.length ++ [t70 ys.length])) (hv : v.oneCell' = true) (hb : ys.length ≤ 1048576) : ∃ (a : Option Addr) (c : Nat) (w' : World) (own' : Nat → Nat), (∀ ty, (Builtin.append_ #[50, 50] ty #[gv, .slice (some ⟨w.heap.size, 0, none⟩) 1 1]).run Tryd.prog (w.alloc (.cells #[v] 29)) = .ok (.slice a (ys.length + 1) c) w') ∧ Aside (Lm A w0 x m v2 v3 v4 wb av vs f nn (.slice a (ys.length + 1) c) (ys ++ [v]) own' w') := by
  obtain ⟨i, hi, hz0, hz1, hz2⟩ := info_parts infoS
  have K : Keeps Nowhere w (w.alloc (.cells #[v] 29)) := (Keeps.refl _ _).alloc _
  obtain ⟨u, w', run, o', sp⟩ := run_appendS (P := Tryd.prog) (w.alloc (.cells #[v] 29)) 50 29 i _ 1 24 Tryd.underlying50 hi hz0 hz1 hz2 rfl (by decide) gv ys.length ys (owns_later h.gr.1 K (fun _ _ x => x)) (.slice (some ⟨w.heap.size, 0, none⟩) 1 1) 1 [v] (by decide) (reads_one w v) (by simp [hv]) (by omega) (by unfold maxLen; omega)
  obtain ⟨a, c, rfl⟩ := slice_len o'
  exact ⟨a, c, w', _, run, ⟨h.gpush hX K o' sp⟩⟩
abbrev Gw (own : Nat → Nat) (w : World) (v : Value) (l : List Nat) (gv : Value) (j : Nat) : Prop := Grows own w 37 1 v l.length (l.map e32) 98 gv j (List.replicate j (e32 800000))
theorem Gw.run {j : Nat} (G : Gw own w v l gv j) (X : XA own w k v l) (hb : l.length ≤ 1048576) (hj : j ≤ 64) : ∃ (a : Option Addr) (c : Nat) (w' : World) (own' : Nat → Nat), (∀ ty, (Builtin.append_ #[29, 29] ty #[gv, .slice (some ⟨w.heap.size, 0, none⟩) 1 1]).run Tryd.prog (w.alloc (.cells #[e32 800000] 37)) = .ok (.slice a (l.length + (j + 1)) c) w') ∧ Aside (XA own' w' k v l) ∧ Aside (Gw own' w' v l (.slice a (l.length + (j + 1)) c) (j + 1)) ∧ Aside (Sn (fun q => q = 98 ∨ q = 100 + k) own w own' w') := by
  obtain ⟨i, hi, hz0, hz1, hz2⟩ := info_parts Pg.u32info
  have K : Keeps Nowhere w (w.alloc (.cells #[e32 800000] 37)) := (Keeps.refl _ _).alloc _
  obtain ⟨u, w', run, o', sp⟩ := run_appendS (P := Tryd.prog) (w.alloc (.cells #[e32 800000] 37)) 29 37 i _ 1 4 Tryd.underlying29 hi hz0 hz1 hz2 rfl (by decide) gv (l.length + j) _ (owns_later G.1 K (fun _ _ x => x)) (.slice (some ⟨w.heap.size, 0, none⟩) 1 1) 1 [e32 800000] (by decide) (reads_one w _) (by simp [Value.oneCell']) (by omega) (by unfold maxLen; omega)
  obtain ⟨a, c, rfl⟩ := slice_len o'
  obtain ⟨X2, G2, S2⟩ := Grows.app X (by simp) G (by omega) K o' sp
  rw [← List.replicate_succ'] at G2
  exact ⟨a, c, w', _, run, ⟨X2⟩, ⟨G2⟩, ⟨S2⟩⟩
theorem XA.appRun (X : XA own w k v l) (t : Nat) (hb : l.length ≤ 1048576) : ∃ (a : Option Addr) (c : Nat) (w' : World) (own' : Nat → Nat), (∀ ty, (Builtin.append_ #[29, 29] ty #[v, .slice (some ⟨w.heap.size, 0, none⟩) 1 1]).run Tryd.prog (w.alloc (.cells #[e32 t] 37)) = .ok (.slice a (l.length + 1) c) w') ∧ Aside (XA own' w' k v l) ∧ Aside (XA own' w' k (.slice a (l.length + 1) c) (l ++ [t])) ∧ Aside (Sn (fun q => q = 98 ∨ q = 100 + k) own w own' w') := by
  obtain ⟨i, hi, hz0, hz1, hz2⟩ := info_parts Pg.u32info
  have K : Keeps Nowhere w (w.alloc (.cells #[e32 t] 37)) := (Keeps.refl _ _).alloc _
  obtain ⟨u, w', run, o', sp⟩ := run_appendS (P := Tryd.prog) (w.alloc (.cells #[e32 t] 37)) 29 37 i _ 1 4 Tryd.underlying29 hi hz0 hz1 hz2 rfl (by decide) v l.length _ (owns_later X.1 K (fun _ _ x => x)) (.slice (some ⟨w.heap.size, 0, none⟩) 1 1) 1 [e32 t] (by decide) (reads_one w _) (by simp [Value.oneCell']) (by omega) (by unfold maxLen; omega)
  obtain ⟨a, c, rfl⟩ := slice_len o'
  obtain ⟨a1, s1⟩ := X.app K o' sp
  have a2 := X.stays (by simp) K o' sp
  refine ⟨a, c, w', _, run, ⟨a2⟩, ⟨?_⟩, ⟨s1.mono (fun _ e => .inr e)⟩⟩
  unfold XA
  rw [List.length_append, List.map_append]
  exact a1
/-- a step was played; the document's next is laid into its box -/
theorem Lm.stepped {own6 : Nat → Nat} {w6 W7 : World} {mn : Pm} {u2 u3 u4 : Value} (h : Lm A w0 x m v2 v3 v4 wb av vs f nn gv [] own w) (t6 : Tp own6 1 99 w6 x mn u2 u3 u4) (s : Sn (fun k => k = 1 ∨ k = 99) own w own6 w6) (k : Keeps Nowhere w6 W7) : CellsO own6 8 W7 wb 34 (rcel m v2 v3 v4) ∧ Lm A w0 x mn u2 u3 u4 wb av vs f nn gv [] own6 (set5 W7 wb (.int .i64 mn.most) (.int .i64 mn.last) u2 u3 u4) := by
  have s7 : Sn (fun k => k = 1 ∨ k = 99) own w own6 W7 := s.trans (Sn.same k)
  have hc := h.pw.c.sn s7 (by decide)
  have P : Pw A w0 own6 99 W7 x mn u2 u3 u4 wb (rcel m v2 v3 v4) := ⟨h.pw.g.sn s7 (by decide), t6.quiet k, hc⟩
  have s8 : Sn (fun k => k = 8) own6 W7 own6 (set5 W7 wb (.int .i64 mn.most) (.int .i64 mn.last) u2 u3 u4) := ⟨fun _ _ => rfl, (keeps5 W7 wb _ _ _ _ _).mono (fun k e _ => by rw [e]; exact hc.2)⟩
  exact ⟨hc, P.write (by decide), (h.all.sn s7 (by decide)).sn s8 (by decide), fun k v e => ((h.xs k v e).sn s7 (by omega)).sn s8 (by omega), (h.gr.sn s7 (by decide)).sn s8 (by decide), fun k v e => by simp at e⟩
theorem Lm.waits (h : Lm A w0 x m v2 v3 v4 wb av vs f nn gv ys own w) (k : Nat) : Calls Tryd.prog 11 #[x] w fun e w' => ∃ (a : Option Addr) (c : Nat) (own' : Nat → Nat), e = .returned (.slice a m.L.length c) ∧ Aside (XA own' w' k (.slice a m.L.length c) (ks m.L)) ∧ Aside (Lm A w0 x m v2 v3 v4 wb av vs f nn gv ys own' w') := by
  refine (pwait h.pw.t.t).mono ?_
  rintro e w' ⟨a, c, rfl, R, K⟩
  refine ⟨a, c, give own w.heap.size (100 + k), rfl, ⟨?_⟩, ⟨h.idle (Sn.quiet K.it _)⟩⟩
  unfold XA
  rw [len_ks]
  exact OwR.new R.it
/-- at the end: the program's (mp), the document's (m) -/
structure Pz (A : Nat → Addr) (w0 : World) (own : Nat → Nat) (W : World) (x : Value) (mp : Pm) (m : Pm) (v2 v3 v4 : Value) (wb : Nat) : Prop where
  g : OnG A w0 own W
  t : PgV own 1 99 W x mp
  d : Dm own W v2 v3 v4 m
  c : CellsO own 8 W wb 34 (rcel m v2 v3 v4)
variable {mp : Pm}
theorem Lm.pz (h : Lm A w0 x m v2 v3 v4 wb av vs f nn gv ys own w) : Pz A w0 own w x m m v2 v3 v4 wb := ⟨h.pw.g, h.pw.t.t, h.pw.t.d, h.pw.c⟩
theorem Pz.quiet (h : Pz A w0 own w x mp m v2 v3 v4 wb) (hk : Keeps Nowhere w w') : Pz A w0 own w' x mp m v2 v3 v4 wb := ⟨h.g.quiet hk, h.t.quiet hk, h.d.quiet hk, h.c.sn (I := fun _ => False) (Sn.same hk) (fun x => x)⟩
theorem Pz.cells (h : Aside (Pz A w0 own W x mp m v2 v3 v4 wb)) : W.cell? ⟨wb, 2, none⟩ = some v2 ∧ W.cell? ⟨wb, 3, none⟩ = some v3 ∧ W.cell? ⟨wb, 4, none⟩ = some v4 := ⟨h.it.c.1.cell 2, h.it.c.1.cell 3, h.it.c.1.cell 4⟩
theorem pz_wait (h : Aside (Pz A w0 own W x mp m v2 v3 v4 wb)) : Calls Tryd.prog 11 #[x] W fun e w' => ∃ (a : Option Addr) (l c : Nat), e = .returned (.slice a l c) ∧ Aside (ReadsK 1 w' (.slice a l c) (ks mp.L).length ((ks mp.L).map e32)) ∧ Aside (Pz A w0 own w' x mp m v2 v3 v4 wb) := by
  refine (pwait h.it.t).mono ?_
  rintro e w' ⟨a, c, rfl, R, K⟩
  exact ⟨a, _, c, rfl, ⟨by rw [len_ks]; exact owns_readsK R.it⟩, ⟨h.it.quiet K.it⟩⟩
theorem pz_sameW {u : Value} (h : Aside (Pz A w0 own W x mp m v2 v3 v4 wb)) (hu : Aside (ReadsK 1 W u (ks m.L).length ((ks m.L).map e32))) : Calls Tryd.prog 15 #[u, v2] W fun e w' => e = .returned (.bool true) ∧ Aside (Pz A w0 own w' x mp m v2 v3 v4 wb) := by
  refine (same17 u v2 _ hu.it h.it.d.wt.r).mono ?_
  rintro e w' ⟨rfl, K⟩
  exact ⟨rfl, ⟨h.it.quiet K.it⟩⟩
theorem pz_sameA {u : Value} (h : Aside (Pz A w0 own W x mp m v2 v3 v4 wb)) (hu : Aside (ReadsK 1 W u m.an.length (m.an.map e32))) : Calls Tryd.prog 15 #[u, v3] W fun e w' => e = .returned (.bool true) ∧ Aside (Pz A w0 own w' x mp m v2 v3 v4 wb) := by
  refine (same17 u v3 _ hu.it h.it.d.a.r).mono ?_
  rintro e w' ⟨rfl, K⟩
  exact ⟨rfl, ⟨h.it.quiet K.it⟩⟩
theorem pz_ans (h : Aside (Pz A w0 own W x mp m v2 v3 v4 wb)) : Calls Tryd.prog 16 #[x] W fun e w' => ∃ (a : Option Addr) (l c : Nat), e = .returned (.slice a l c) ∧ Aside (ReadsK 1 w' (.slice a l c) mp.an.length (mp.an.map e32)) ∧ Aside (Pz A w0 own w' x mp.told m v2 v3 v4 wb) := by
  refine (panswered h.it.t).mono ?_
  rintro e w' ⟨a, c, rfl, R, _, X⟩
  exact ⟨a, _, c, rfl, ⟨owns_readsK R.it⟩, ⟨h.it.g.sn X.it.2 (by decide), X.it.1 99, h.it.d.sn X.it.2 (by decide), h.it.c.sn X.it.2 (by decide)⟩⟩
theorem pz_owed (h : Aside (Pz A w0 own W x mp m v2 v3 v4 wb)) : Calls Tryd.prog 10 #[x] W fun e w' => e = .returned (.int .i64 mp.ow.length) ∧ Aside (Pz A w0 own w' x mp m v2 v3 v4 wb) := by
  refine (powed h.it.t).mono ?_
  rintro e w' ⟨rfl, K⟩
  exact ⟨rfl, ⟨h.it.quiet K.it⟩⟩
end Go.Proofs.YtnmpnajmhfonhaaDoor
