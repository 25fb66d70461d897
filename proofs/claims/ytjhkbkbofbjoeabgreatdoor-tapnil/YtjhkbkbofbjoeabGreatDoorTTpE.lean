/-
  package tap: Assemble
-/
import Derived.Test.YtjhkbkbofbjoeabGreatDoorTTpW
namespace Go.Proofs.YtjhkbkbofbjoeabGreatDoor
open Go.RowKit Go.Shelf Go.Maps
attribute [-go_sem] run_index_string
attribute [-go_sem] Builtin.append_
attribute [local go_sem] Oper.semAt_some

/-- append onto a row in blocks not below B -/
theorem appB {B m : Nat} {W : World} {v x : Value} {ns ms : List Int} (h : OwnB B W v ns) (hB : B ≤ W.heap.size) (hx : Rd W x ms) (hb : ns.length + ms.length ≤ 140737488355328) (hm : (ns ++ ms).length = m) :
    ∃ (a : Option Addr) (c : Nat) (w' : World), (∀ ty, (Builtin.append_ #[32, 32] ty #[v, x]).run Tryz.prog W = .ok (.slice a m c) w') ∧ Aside (OwnB B w' (.slice a m c) (ns ++ ms) ∧ Keeps (fun k => B ≤ k) W w') := by
  obtain ⟨i, hi, hz0, hz1, hz2⟩ := info_parts u8info
  have hown' : W.ownsRow B 5 1 v (bv ns).length (bv ns) := by rw [bv_length]; exact h
  obtain ⟨v', w', run, o', g'⟩ := run_appendK (P := Tryz.prog) W B 32 5 i _ 1 Tryz.underlying32 hi hz0 hz1 hz2 rfl v (bv ns) hown' x (bv ms) hx.1 hx.2 (bv_one ms) (by rw [bv_length, bv_length]; omega) (by rw [bv_length, bv_length]; unfold maxLen; omega) hB
  have o2 : OwnB B w' v' (ns ++ ms) := by
    rw [← bv_append, bv_length] at o'
    exact o'
  obtain ⟨a, c, e⟩ := OwnB.shape o2
  rw [hm] at e
  subst e
  exact ⟨a, c, w', run, ⟨o2, (grown_keeps g').mono (fun k e _ => owns_base h k e)⟩⟩
structure Aw (w0 : World) (rb B D : Nat) (v : Value) (acc : List Int) (W : World) : Prop where
  r1 : Cells W rb 32 [.slice none 0 0]
  r2 : Cells W (rb + 1) 25 [.nilIface]
  ac : Cells W (rb + 1 + 1) 32 [v]
  row : OwnB B W v acc
  bel : Below w0.heap.size w0 W
  df : W.heap[D]? = some (.deferred (some []))
  sz : B ≤ W.heap.size
section
variable {w0 W W' : World} {rb B D : Nat} {v : Value} {acc : List Int} {S : Nat → Prop}
theorem Aw.later (g : Aw w0 rb B D v acc W) (hk : Keeps S W W') (h1 : ¬ S rb) (h2 : ¬ S (rb + 1)) (h3 : ¬ S (rb + 1 + 1)) (h4 : ¬ S D) (h5 : ∀ k, B ≤ k → ¬ S k) (hs : ∀ k, S k → k < W.heap.size → w0.heap.size ≤ k) : Aw w0 rb B D v acc W' :=
  ⟨g.r1.later hk h1, g.r2.later hk h2, g.ac.later hk h3, owns_later g.row hk (fun k hk' => h5 k (owns_base g.row k hk')), below_next g.bel hk g.bel.size hs, (hk.block D (Array.getElem?_eq_some_iff.1 g.df).1 h4).trans g.df, Nat.le_trans g.sz hk.size⟩
theorem Aw.quiet (g : Aw w0 rb B D v acc W) (hk : Keeps Nowhere W W') : Aw w0 rb B D v acc W' := g.later hk (fun x => x) (fun x => x) (fun x => x) (fun x => x) (fun _ _ x => x) (fun _ x _ => x.elim)
/-- behind the append and its store -/
theorem Aw.more {v' : Value} {acc' : List Int} (g : Aw w0 rb B D v acc W) (o : OwnB B W' v' acc') (hk : Keeps (fun k => B ≤ k) W W') (h1 : rb + 1 + 1 < B) (h2 : D < B) (h3 : rb + 1 + 1 < D) (h4 : w0.heap.size ≤ rb) : Aw w0 rb B D v' acc' (W'.setCell ⟨rb + 1 + 1, 0, none⟩ v') := by
  have K : Keeps (fun k => k = rb + 1 + 1) W' (W'.setCell ⟨rb + 1 + 1, 0, none⟩ v') := (Keeps.refl _ _).setCell _ _ (fun _ => rfl)
  have d1 := (hk.block D (Array.getElem?_eq_some_iff.1 g.df).1 (by omega)).trans g.df
  refine ⟨(g.r1.later hk (by omega)).later K (by omega), (g.r2.later hk (by omega)).later K (by omega), (g.ac.later hk (by omega)).setCell 0 v', owns_later o K (fun k hk' e => by have := owns_base o k hk'; omega), ?_, (K.block D (Array.getElem?_eq_some_iff.1 d1).1 (by omega)).trans d1, ?_⟩
  · exact below_next (below_next g.bel hk g.bel.size (fun k e _ => by omega)) K (Nat.le_trans g.bel.size hk.size) (fun k e _ => by have : k = rb + 1 + 1 := e; omega)
  · exact Nat.le_trans g.sz (Nat.le_trans hk.size K.size)
end
set_option maxRecDepth 20000 in
set_option maxHeartbeats 8000000 in
theorem assemble_at {A : Nat → Addr} (w : World) {T : List UInt8} {NS : List (List Int)} (hs : SentO A w) (hW : Words w) (hL : ∀ (i : Nat) (x : List UInt8), (Tp.spU 10 T)[i]? = some x → ∃ ms : List Int, NS[i]? = some ms ∧ Wr x ms) (hN : NS.length = (Tp.spU 10 T).length) (hT : T.length ≤ 140737488355328) (hB : NS.flatten.length ≤ 4398046511104) :
    Calls Tryz.prog 9 #[.string (str T)] w fun e w' => ∃ q n c, e = .returned (.tuple #[.slice q n c, .nilIface]) ∧ Aside (Rd w' (.slice q n c) NS.flatten) ∧ Aside (Below w.heap.size w w') := by
  refine (callsIn_wide (n := 9)).1 ?_
  refine callsIn_of_wp_marks Tryz.func9 rfl trivial ?_ rfl
  simp only [Tryz.ntmps9, List.size_toArray, List.length_cons, List.length_nil, Nat.reduceAdd, Nat.reduceSub, Array.replicate_succ, Array.replicate_zero, List.push_toArray, List.append_toArray, List.nil_append, List.cons_append]
  have SP : Aside (∀ W, Calls Tryz.prog 24 #[.string (str T), .string (str [10])] W fun e w' => ∃ b, e = .returned (.func (.func 64) #[] (itS b)) ∧ Aside (W.heap.size ≤ b ∧ SplW w' b T 10 ∧ Keeps Nowhere W w')) := ⟨fun W => splitSeqP_at W T 10⟩
  have HLL := Aside.mk hL
  have HN := Aside.mk hN
  have HT := Aside.mk hT
  have HBB := Aside.mk hB
  have HS := Aside.mk hs
  have HW := Aside.mk hW
  clear hL hN hT hB hs hW
  refine wpIn_wide.2 ?_
  go_upto_region 2 with fail
  obtain ⟨w1, hw1⟩ : ∃ w1, (((w.alloc (.cells #[.slice none 0 0] 32)).alloc (.cells #[.nilIface] 25)).alloc (.cells #[.slice none 0 0] 32)) = w1 := ⟨_, rfl⟩
  obtain ⟨rb, hrb⟩ : ∃ rb, w.heap.size = rb := ⟨_, rfl⟩
  have HRB := Aside.mk hrb
  have X1 : Aside (Cells w1 rb 32 [.slice none 0 0] ∧ Cells w1 (rb + 1) 25 [.nilIface] ∧ Cells w1 (rb + 1 + 1) 32 [.slice none 0 0] ∧ Below w.heap.size w w1 ∧ w1.heap.size = rb + 3) := ⟨by
    have C1 := Cells.new w 32 [.slice none 0 0]
    have C2 := Cells.new (w.alloc (.cells #[.slice none 0 0] 32)) 25 [.nilIface]
    have C3 := Cells.new ((w.alloc (.cells #[.slice none 0 0] 32)).alloc (.cells #[.nilIface] 25)) 32 [.slice none 0 0]
    rw [World.size_alloc] at C2
    rw [World.size_alloc, World.size_alloc] at C3
    rw [← hw1, ← hrb]
    exact ⟨C1.later (S := Nowhere) (((Keeps.refl _ _).alloc _).alloc _) (fun x => x), C2.later (S := Nowhere) ((Keeps.refl _ _).alloc _) (fun x => x), C3, ((alloc_below _ _).trans ((alloc_below _ _).mono (by simp))).trans ((alloc_below _ _).mono (by simp; omega)), by simp⟩⟩
  rw [hw1, hrb]
  clear hw1
  have SP1 := Aside.mk (SP.it w1)
  go_wp2_with (first | (go_at_call 24; refine SP1.it.mono ?_; rintro e w2 ⟨b, rfl, X2⟩) | fail)
  have HB2 := Aside.mk X2.it.1
  have SW2 := Aside.mk X2.it.2.1
  have K2 := Aside.mk X2.it.2.2
  have hbl := SW2.it.k.lt
  have hsz := X1.it.2.2.2.2
  have hb1 := HB2.it
  refine (wpIn_wide (n := 9)).1 ?_
  refine range_outer2 (b := b) (K := fun k => k = b ∨ k = b + 1 ∨ k = b + 1 + 1) (L := Tp.spU 10 T) (encs := encT) (Wk := fun W => SplW W b T 10) (gf := 64) (lb := itS b) rfl (enters_of Tryz.func64 (by kernel_rfl) rfl) (split_hands 8 b T 10 HT.it) (fun _ => rfl)
    (fun pre W => ∃ q n c, Aw w rb (w2.heap.size + 2) w2.heap.size (.slice q n c) (NS.take pre.length).flatten W)
    (fun _ _ _ => False) ?h0 ?hq ?hw (by omega) (fun k hk => by omega) ?hp (fun _ _ _ _ _ h _ => h) ?a1 ?assign ?body ?done (fun _ _ _ _ h => h.elim)
  case h0 =>
    intro r
    have k3 : Keeps Nowhere w1 ((w2.alloc (.deferred (some []))).alloc (.loop r)) := (K2.it.alloc _).alloc _
    have h1 := World.alloc_heap_new w2 (.deferred (some []))
    exact ⟨none, 0, 0, X1.it.1.later k3 (fun x => x), X1.it.2.1.later k3 (fun x => x), X1.it.2.2.1.later k3 (fun x => x), ⟨rfl, .inl ⟨rfl, rfl⟩⟩, X1.it.2.2.2.1.trans (k3.bel.mono X1.it.2.2.2.1.size), (((Keeps.refl Nowhere _).alloc (.loop r)).block _ (Array.getElem?_eq_some_iff.1 h1).1 (fun x => x)).trans h1, by simp⟩
  case hq =>
    rintro pre A B ⟨q, n, c, g⟩ hk
    exact ⟨q, n, c, g.later hk (by omega) (by omega) (by omega) (by omega) (fun k h e => by have : k = b := e; omega) (fun k e _ => by have := HRB.it; omega)⟩
  case hw =>
    intro r
    have k3 : Keeps Nowhere w2 ((w2.alloc (.deferred (some []))).alloc (.loop r)) := ((Keeps.refl _ _).alloc _).alloc _
    exact ⟨SW2.it.s.later k3 (fun x => x), SW2.it.c.later k3 (fun x => x), SW2.it.k.later k3 (fun x => x)⟩
  case hp =>
    rintro pre A r r' ⟨q, n, c, g⟩ hl
    exact ⟨q, n, c, g.later (putObj_keepsT A (w2.heap.size + 1) (.loop r')) (by omega) (by omega) (by omega) (by omega) (fun k h e => by have : k = w2.heap.size + 1 := e; omega) (fun k e _ => by have := HRB.it; omega)⟩
  case assign =>
    intro x W K hK
    gi_wp2
    exact hK
  case body =>
    rintro pre x W rec ⟨q, n, c, g⟩ hpre hx hrec
    obtain ⟨ms, hms, hwr⟩ := HLL.it _ _ hx
    have e3 : w.heap.size ≤ rb := by rw [HRB.it]; exact Nat.le_refl _
    have WR := Aside.mk (written_at W (HS.it.later g.bel) (HW.it.later g.bel) hwr)
    have HLEN : Aside ((NS.take pre.length).flatten.length + ms.length ≤ 4398046511104 ∧ (NS.take (pre ++ [x]).length).flatten = (NS.take pre.length).flatten ++ ms) := ⟨by
      have e1 : NS.take (pre.length + 1) = NS.take pre.length ++ [ms] := by rw [List.take_add_one, hms]; rfl
      have e2 : (NS.take (pre.length + 1)).flatten = (NS.take pre.length).flatten ++ ms := by rw [e1, List.flatten_append]; simp
      have e4 : NS.flatten = (NS.take (pre.length + 1)).flatten ++ (NS.drop (pre.length + 1)).flatten := by rw [← List.flatten_append, List.take_append_drop]
      have h1 := HBB.it
      rw [e4, e2, List.length_append, List.length_append] at h1
      exact ⟨by omega, by rw [List.length_append]; exact e2⟩⟩
    have G := Aside.mk g
    have HREC := Aside.mk hrec
    have HPX := Aside.mk (show (pre ++ [x]).length = (pre ++ [x]).length from rfl)
    clear hms hwr g hrec hx hpre
    gi_wp2_with fail
    refine ⟨trivial, CallsIn.inRound _ (callsIn_wide.2 (WR.it.mono ?_))⟩
    rintro e W2 ⟨wq, wn, wc, rfl, R2, B2⟩
    have K3 : Aside (Keeps Nowhere W W2) := ⟨Keeps.ofBelow B2.it⟩
    have G2 := Aside.mk (G.it.quiet K3.it)
    have f1 := G2.it.ac.frozen 0
    have c1 : W2.cell? ⟨rb + 1 + 1, 0, none⟩ = some (.slice q n c) := by rw [G2.it.ac.cell]; rfl
    obtain ⟨m3, hm3⟩ : ∃ m, ((NS.take pre.length).flatten ++ ms).length = m := ⟨_, rfl⟩
    obtain ⟨a3, c3, w3, run3, N3⟩ := appB G2.it.row G2.it.sz R2.it (by have := HLEN.it.1; omega) hm3
    clear hm3
    have C3 := Aside.mk (G2.it.ac.later N3.it.2 (by omega))
    have f3 := C3.it.frozen 0
    have c3' : w3.cell? ⟨rb + 1 + 1, 0, none⟩ = some (.slice q n c) := by rw [C3.it.cell]; rfl
    gi_wp2_with fail
    have GF := G2.it.more N3.it.1 N3.it.2 (by omega) (by omega) (by omega) e3
    have KE : Keeps (fun k => w2.heap.size + 2 ≤ k ∨ k = rb + 1 + 1) W (w3.setCell ⟨rb + 1 + 1, 0, none⟩ (.slice a3 m3 c3)) := ((K3.it.mono (fun _ e _ => e.elim)).trans (N3.it.2.mono (fun _ e _ => .inl e))).setCell _ _ (fun _ => .inr rfl)
    have LT := (Array.getElem?_eq_some_iff.1 HREC.it).1
    refine ⟨⟨KE.block _ LT (by omega), fun k hk => KE.block k (by omega) (by omega)⟩, a3, m3, c3, ?_⟩
    rw [HLEN.it.2]
    exact GF
  case done =>
    rintro W ⟨q, n, c, g⟩
    rw [← HN.it, List.take_of_length_le (Nat.le_refl _)] at g
    have e0 : w2.heap.size ≠ rb := by omega
    have e1 : w2.heap.size ≠ rb + 1 := by omega
    have G := Aside.mk g
    have ca : W.cell? ⟨rb + 1 + 1, 0, none⟩ = some (.slice q n c) := by rw [g.ac.cell]; rfl
    have c0 : W.cell? ⟨rb, 0, none⟩ = some (.slice none 0 0) := by rw [g.r1.cell]; rfl
    have c1 : W.cell? ⟨rb + 1, 0, none⟩ = some .nilIface := by rw [g.r2.cell]; rfl
    have f0 := g.r1.frozen 0
    have f1 := g.r2.frozen 0
    clear g
    gi_wp2_with fail
    go_wp2_with fail
    have kA : Keeps (fun k => k = rb) W (W.setCell ⟨rb, 0, none⟩ (.slice q n c)) := (Keeps.refl _ _).setCell _ _ (fun _ => rfl)
    have cA := G.it.r1.setCell 0 (.slice q n c)
    have cB := G.it.r2.later kA (by omega)
    have dA := (kA.block _ (Array.getElem?_eq_some_iff.1 G.it.df).1 e0).trans G.it.df
    have rA := G.it.row.rd.keep kA (fun g hg e => by have := owns_base G.it.row g hg; have : g = rb := e; omega)
    have bA := below_next G.it.bel kA G.it.bel.size (fun k e _ => by have : k = rb := e; have := HRB.it; omega)
    have zA := Nat.le_trans G.it.sz kA.size
    have nb : ∀ g, (Value.slice q n c).ownBlock = some g → w2.heap.size + 2 ≤ g := owns_base G.it.row
    generalize W.setCell ⟨rb, 0, none⟩ (.slice q n c) = WA at kA cA cB dA rA bA zA ⊢
    have kB : Keeps (fun k => k = rb + 1) WA (WA.setCell ⟨rb + 1, 0, none⟩ .nilIface) := (Keeps.refl _ _).setCell _ _ (fun _ => rfl)
    have cA2 := cA.later kB (by omega)
    have cB2 := cB.setCell 0 .nilIface
    have dB := (kB.block _ (Array.getElem?_eq_some_iff.1 dA).1 e1).trans dA
    have rB := rA.keep kB (fun g hg e => by have := nb g hg; have : g = rb + 1 := e; omega)
    have bB := below_next bA kB bA.size (fun k e _ => by have : k = rb + 1 := e; have := HRB.it; omega)
    have zB := Nat.le_trans zA kB.size
    generalize WA.setCell ⟨rb + 1, 0, none⟩ .nilIface = WB at kB cA2 cB2 dB rB bB zB ⊢
    have kp := putObj_keepsT WB w2.heap.size (.deferred none)
    have z0 := (cA2.later kp (Ne.symm e0)).cell 0
    have z1 := (cB2.later kp (Ne.symm e1)).cell 0
    simp only [List.getElem?_cons_zero, List.set_cons_zero] at z0 z1
    have rC := rB.keep kp (fun g hg e => by have := nb g hg; have : g = w2.heap.size := e; omega)
    have bC := below_next bB kp bB.size (fun k e _ => by have : k = w2.heap.size := e; have := HRB.it; omega)
    refine ⟨by simp, .inl ⟨_, _, rfl, run_takeDeferred dB, ?_⟩⟩
    refine ⟨.tuple #[.slice q n c, .nilIface], ?_, _, _, _, rfl, ⟨rC⟩, ⟨bC⟩⟩
    clear kA cA cB dA rA bA zA kB cA2 cB2 dB rB bB zB rC bC kp
    simp [results, Tryz.f9, go_sem, z0, z1]
end Go.Proofs.YtjhkbkbofbjoeabGreatDoor
