/-
  package out: Put
-/
import Derived.Test.YtfphoaphdfhhiaaDoorOux
namespace Go.Proofs.YtfphoaphdfhhiaaDoor
open Go.RowKit

section
variable {own own' : Nat → Nat} {i j : Nat} {w w' : World} {p qp tot : Nat} {q : List (Nat × Nat)} {rs : List (List Int)} {I : Nat → Prop}

theorem putB_nil {A : Nat → Addr} (w : World) (hs : Sents 103 codeVars A w) (v t f s l : Int) (d : Value) (hd : ∃ a n c, d = .slice a n c) :
    Calls Tryd.prog 11 #[.pointer none, frm v t f s l d] w fun e w' => ∃ er, e = .returned er ∧ Aside (Coded A er 1 ∧ Keeps Nowhere w w') := by
  obtain ⟨a, n, c, rfl⟩ := hd
  have hc := hs.cell 0 _ rfl
  have hc' : (w.alloc (fbox v t f s l (.slice a n c))).cell? ⟨0, 0, none⟩ = _ := alloc_cell _ hc
  clear hs
  go_enter Tryd.func11, Tryd.ntmps11
  go_wp2
  go_ret
  exact ⟨_, rfl, ⟨Coded.mk 0 1 (by decide) (by decide) rfl, (Keeps.refl _ _).alloc _⟩⟩
theorem putB_bad {A : Nat → Addr} (p : Nat) (hs : Sents 103 codeVars A w) (v t f s l : Int) (d : Value) (ns : List Int) (hr : Rd w d ns) (hn : ns.length ≤ 140737488351300)
    (hf0 : 0 ≤ f) (hf1 : f ≤ 65535) (hs0 : 0 ≤ s) (hs1 : s ≤ 4294967295) (hl0 : 0 ≤ l) (hl1 : l ≤ 4294967295) (hbad : ¬ (ns.length : Int) = szH t l) :
    Calls Tryd.prog 11 #[ptr p, frm v t f s l d] w fun e w' => ∃ er, e = .returned er ∧ Aside (Coded A er 15 ∧ Keeps Nowhere w w') := by
  obtain ⟨W0, hW0⟩ : ∃ W0, W0 = w.alloc (fbox v t f s l d) := ⟨_, rfl⟩
  have k0 : Keeps Nowhere w W0 := by rw [hW0]; exact (Keeps.refl _ _).alloc _
  have K0 := Aside.mk k0
  have B0 := Aside.mk (bytes_any (A := A) v t f s l d ns W0 (hs.later k0.bel) (hr.later k0.bel) hn hf0 hf1 hs0 hs1 hl0 hl1)
  have he : Aside (bE t l ns.length = 15) := ⟨if_neg hbad⟩
  obtain ⟨a, c, hd⟩ := hr.shape
  subst hd
  have hB : FB w.heap.size v t f s l (.slice a ns.length c) W0 := by rw [hW0]; exact FB.new w v t f s l _
  obtain ⟨⟨b0, b1, b2, b3, b4⟩, b5⟩ := hB
  obtain ⟨N, hN⟩ : ∃ N, N = ns.length := ⟨_, rfl⟩
  rw [← hN] at B0 he b5 hW0 ⊢
  clear hs hr hn hf0 hf1 hs0 hs1 hl0 hl1 hbad k0 hN
  go_enter Tryd.func11, Tryd.ntmps11
  go_upto_region 1 with fail
  rw [← hW0]
  clear hW0
  go_wp2_with fail
  refine B0.it.mono ?_
  rintro e w1 ⟨x, ev, rfl, c1, o1, b1'⟩
  have K1 : Aside (Keeps Nowhere w w1) := ⟨K0.it.trans (Keeps.ofBelow b1')⟩
  clear b0 b1 b2 b3 b4 b5 b1'
  rw [he.it] at c1
  rcases c1.it with ⟨_, e⟩ | ⟨k, hk, h27, rfl, e⟩
  · cases e
  · have CC := Aside.mk (And.intro hk (And.intro h27 e))
    clear c1 hk h27 e
    go_wp2
    go_ret
    exact ⟨_, rfl, ⟨.inr ⟨k, CC.it.1, CC.it.2.1, rfl, CC.it.2.2⟩, K1.it⟩⟩
theorem laid_ne_box {g g' : Nat} {a b : List Value} (h : Cells w g 68 a) (h' : Cells w g' 57 b) : g ≠ g' := by
  rintro rfl
  unfold Cells at h h'
  rw [h] at h'
  injection h' with h'
  injection h' with _ h'
  exact absurd h' (by decide)
theorem OwnB.rdO {B : Nat} {v : Value} {ns : List Int} (h : OwnB B w v ns) (ho : ∀ g, B ≤ g → own g = j) : RdO own j w v ns :=
  ⟨h.rd, fun g hg => ⟨owns_lt h g hg, ho g (owns_base h g hg)⟩⟩
theorem Whole.blocks (h : Whole own j w q rs) : ∀ b ∈ q.map (·.1), b < w.heap.size := by
  induction q generalizing rs with
  | nil => intro b hb; cases hb
  | cons x q ih =>
    cases rs with
    | nil => exact h.elim
    | cons r rs =>
      intro b hb
      simp only [List.map_cons, List.mem_cons] at hb
      rcases hb with rfl | hb
      · obtain ⟨_, _, v, hc, _⟩ := h.1
        exact hc.1.lt
      · exact ih h.2.2 b hb
theorem Laids.blocks (h : Laids own j w q rs) : ∀ b ∈ q.map (·.1), b < w.heap.size := by
  cases q with
  | nil => intro b hb; cases hb
  | cons x q =>
    cases rs with
    | nil => exact h.elim
    | cons r rs =>
      intro b hb
      simp only [List.map_cons, List.mem_cons] at hb
      rcases hb with rfl | hb
      · obtain ⟨_, _, v, hc, _⟩ := h.1
        exact hc.1.lt
      · exact Whole.blocks h.2 b hb
set_option maxHeartbeats 1000000 in
theorem putB_ok {A : Nat → Addr} (hij : i ≠ j) (h : BufO own i j w p rs tot) (hs : Sents 103 codeVars A w) (v t f s l : Int) (d : Value) (ns : List Int) (hr : Rd w d ns) (hn : ns.length ≤ 140737488351300)
    (hf0 : 0 ≤ f) (hf1 : f ≤ 65535) (hs0 : 0 ≤ s) (hs1 : s ≤ 4294967295) (hl0 : 0 ≤ l) (hl1 : l ≤ 4294967295) (hok : (ns.length : Int) = szH t l) (hlen : rs.length ≤ 4398046511103) (htot : tot + 12 + ns.length ≤ maxI) :
    Calls Tryd.prog 11 #[ptr p, frm v t f s l d] w fun e w' => ∃ own', e = .returned .nilIface ∧ Aside (BufO own' i j w' p (rs ++ [enc v t f s l ++ ns]) (tot + 12 + ns.length) ∧ Sn (fun k => k = i) own w own' w') := by
  obtain ⟨qp, q, h⟩ := h
  obtain ⟨W0, hW0⟩ : ∃ W0, W0 = w.alloc (fbox v t f s l d) := ⟨_, rfl⟩
  have k0 : Keeps Nowhere w W0 := by rw [hW0]; exact (Keeps.refl _ _).alloc _
  have K0 := Aside.mk k0
  have B0 := Aside.mk (bytes_any (A := A) v t f s l d ns W0 (hs.later k0.bel) (hr.later k0.bel) hn hf0 hf1 hs0 hs1 hl0 hl1)
  have he : Aside (bE t l ns.length = 0) := ⟨if_pos hok⟩
  have ho : Aside (bO v t f s l ns = enc v t f s l ++ ns) := ⟨if_pos hok⟩
  obtain ⟨a, c, hd⟩ := hr.shape
  subst hd
  have hB : FB w.heap.size v t f s l (.slice a ns.length c) W0 := by rw [hW0]; exact FB.new w v t f s l _
  obtain ⟨⟨b0, b1, b2, b3, b4⟩, b5⟩ := hB
  have hbl : Aside ((enc v t f s l ++ ns).length = 12 + ns.length) := ⟨by rw [List.length_append, enc_length]⟩
  obtain ⟨r, hrr⟩ : ∃ r, r = enc v t f s l ++ ns := ⟨_, rfl⟩
  rw [← hrr] at ho hbl ⊢
  obtain ⟨N, hN⟩ : ∃ N, N = ns.length := ⟨_, rfl⟩
  rw [← hN] at B0 he hbl b5 hW0 htot ⊢
  have H := Aside.mk h
  have HT := Aside.mk htot
  have HL := Aside.mk hlen
  clear hs hr hn hf0 hf1 hs0 hs1 hl0 hl1 hok k0 hN hrr h htot hlen
  obtain ⟨L, hL⟩ : ∃ L, L = 12 + N := ⟨_, rfl⟩
  rw [← hL] at hbl
  have HT2 : Aside (tot + L ≤ maxI ∧ tot + 12 + N = tot + L) := ⟨by have := HT.it; omega, by omega⟩
  rw [HT2.it.2]
  clear hL
  go_enter Tryd.func11, Tryd.ntmps11
  go_upto_region 1 with fail
  rw [← hW0]
  clear hW0
  go_wp2_with fail
  refine B0.it.mono ?_
  rintro e w1 ⟨x, ev, rfl, c1, o1, b1'⟩
  have K1 : Aside (Keeps Nowhere w w1) := ⟨K0.it.trans (Keeps.ofBelow b1')⟩
  clear b0 b1 b2 b3 b4 b5 b1'
  rw [he.it] at c1
  rw [ho.it] at o1
  obtain rfl : ev = .nilIface := by
    rcases c1.it with ⟨e, _⟩ | ⟨k, _, _, _, e⟩
    · exact e
    · omega
  obtain ⟨xa, xc, hx⟩ := o1.it.shape
  subst hx
  rw [hbl.it]
  have d1 : w1.cell? ⟨p, 0, none⟩ = some (ptr qp) := by rw [(H.it.quiet K1.it).box.1.cell]; rfl
  obtain ⟨W2, hW2⟩ : ∃ W2, Aside (W2 = w1.alloc (.cells #[.slice xa L xc] 68)) := ⟨_, ⟨rfl⟩⟩
  have K2 : Aside (Keeps Nowhere w1 W2) := ⟨by rw [hW2.it]; exact (Keeps.refl _ _).alloc _⟩
  have C2 : Aside (Cells W2 w1.heap.size 68 [.slice xa L xc]) := ⟨by rw [hW2.it]; exact Cells.new w1 _ _⟩
  have hqn := (Laids.len H.it.laids).1
  have S0 : Aside (Sn (fun k => k = i) own w (give own w.heap.size j) W2) := ⟨Sn.quiet (K1.it.trans K2.it) j⟩
  have H2 : Aside (BufI (give own w.heap.size j) i j W2 p qp q rs tot) := ⟨H.it.sn (I := fun _ => False) (Sn.quiet (K1.it.trans K2.it) j) (fun x => x) (fun x => x)⟩
  have P2 := Aside.mk (Flaid.put_o H2.it.fifo w1.heap.size L (by have := HL.it; show q.length < maxI; simp only [maxI]; omega) (by have := H.it.tot; have := HT2.it.1; omega) (by have := HL.it; omega))
  clear c1 hqn
  go_wp2_with (go_at_call 24; rw [← hW2.it]; refine P2.it.mono ?_; rintro e w3 ⟨rfl, f3, k3⟩)
  go_ret
  have s3 : Sn (fun k => k = i) (give own w.heap.size j) W2 (give (give own w.heap.size j) W2.heap.size i) w3 := Sn.by k3.it i
  have hj : ¬ j = i := fun e => hij e.symm
  have hle : w.heap.size ≤ w1.heap.size := K1.it.size
  have rd2 : RdO (give own w.heap.size j) j W2 (.slice xa L xc) r := by
    have h1 := o1.it.later K2.it.bel
    rw [hbl.it] at h1
    exact h1.rdO (fun g hg => give_new (Nat.le_trans K0.it.size hg))
  have on2 : OneL (give own w.heap.size j) j W2 w1.heap.size r.length r := by
    refine ⟨fun e => ?_, Nat.le_refl _, _, ⟨C2.it, give_new hle⟩, rd2⟩
    have h1 := hbl.it
    have h2 := HT2.it.2
    rw [e, List.length_nil] at h1
    omega
  rw [← hbl.it] at f3 ⊢
  refine ⟨_, rfl, ⟨⟨qp, _, ⟨H2.it.box.sn s3 hj, f3.it, Laids.sn (Laids.snoc H2.it.laids _ _ on2) s3 hj, ?_, ?_⟩⟩, S0.it.trans s3⟩⟩
  · rw [List.map_append, List.nodup_append]
    refine ⟨H.it.nodup, by simp, fun a ha b hb e => ?_⟩
    simp only [List.map_cons, List.map_nil, List.mem_singleton] at hb
    have := Laids.blocks (H.it.quiet K1.it).laids a ha
    omega
  · rw [Flaid.sumW_append, Flaid.sumW_cons, Flaid.sumW_nil]
    have := H.it.tot
    omega
end
end Go.Proofs.YtfphoaphdfhhiaaDoor
