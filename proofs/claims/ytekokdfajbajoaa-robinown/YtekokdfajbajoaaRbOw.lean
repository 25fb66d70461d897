/-
  RobinOwn
-/
import Derived.Test.YtekokdfajbajoaaRbPl
import Derived.Test.YtekokdfajbajoaaWp12
namespace Go.Proofs.Ytekokdfajbajoaa
open Go.RowKit

variable {w w' w0 : World} {own own' : Nat → Nat} {i r q : Nat} {ks ms : List Int} {v u : Value} {I : Nat → Prop}

/-- two robins, each with its list -/
structure Ro (w0 : World) (own : Nat → Nat) (w : World) (r : Nat) (ks : List Int) (v : Value) (q : Nat) (ms : List Int) (u : Value) : Prop where
  g : Ground w0.heap.size w0 own w
  a : Rw own 1 w r ks v ks
  b : Rw own 3 w q ms u ms
theorem Ro.sn (h : Ro w0 own w r ks v q ms u) (s : Sn I own w own' w') (hi : ∀ k, k < 5 → ¬ I k) : Ro w0 own' w' r ks v q ms u :=
  ⟨h.g.sn s (hi 0 (by decide)), h.a.sn s (hi 1 (by decide)) (hi 2 (by decide)), h.b.sn s (hi 3 (by decide)) (hi 4 (by decide))⟩
theorem Ro.quiet (h : Ro w0 own w r ks v q ms u) (k : Keeps Nowhere w w') : Ro w0 own w' r ks v q ms u := h.sn (I := fun _ => False) (Sn.same k) (fun _ _ x => x)
/-- a list of the first robin's, by another owner -/
def Rl (own : Nat → Nat) (o : Nat) (w : World) (ks : List Int) (x : Value) : Prop := RowO own o w 3 x (ks.map (Value.int .i64)) ∧ ∀ b, x.ownBlock = some b → b < w.heap.size
theorem Rl.sn {o : Nat} {x : Value} (h : Rl own o w ks x) (s : Sn I own w own' w') (hi : ¬ I o) : Rl own' o w' ks x :=
  ⟨⟨h.1.1.later s.keeps (fun b hb e => hi (h.1.2 b hb ▸ e)), fun b hb => (s.agree b (h.2 b hb)).trans (h.1.2 b hb)⟩, fun b hb => Nat.lt_of_lt_of_le (h.2 b hb) s.keeps.size⟩
theorem Ro.list (h : Ro w0 own w r ks v q ms u) (o : Nat) (hm : ks.length * 8 ≤ 140737488355328) : Calls Try.prog 11 #[ptr r] w fun e w' => ∃ x own', e = .returned x ∧ Aside (Ro w0 own' w' r ks v q ms u ∧ Rl own' o w' ks x ∧ Sn (fun _ => False) own w own' w') := by
  refine (Rbint.listO own o h.a.rb hm).mono ?_
  rintro e w' ⟨x, rfl, L, _⟩
  have s : Sn (fun _ => False) own w (give own w.heap.size o) w' := Sn.quiet L.it.1 _
  exact ⟨x, _, rfl, ⟨h.sn s (fun _ _ x => x), ⟨L.it.2, fun b hb => L.it.2.1.lt b hb⟩, s⟩⟩
theorem Ro.same (h : Ro w0 own w r ks v q ms u) {o : Nat} {x : Value} (hx : Rl own o w ks x) (hm : ks.length ≤ maxLen) : Calls Try.prog 10 #[x, v] w fun e w' => e = .returned (.bool true) ∧ Aside (Keeps Nowhere w w') :=
  (same12 (row_rdI hx.1.1 hm (RbO_ky h.a.rb)) h.a.li).mono fun _ _ x => ⟨x.1, ⟨x.2⟩⟩
theorem Rl.wipe {o : Nat} {x : Value} (h : Rl own o w ks x) (n : Int) (hm : ks.length * 8 ≤ 70368744177664) : Calls Try.prog 19 #[x, .int .i64 n] w fun e w' => ∃ own', e = .returned (.tuple #[]) ∧ Aside (Sn (fun k => k = o) own w own' w') := by
  refine (wipe12 n h.1.1 (by rw [List.length_map]; exact hm)).mono ?_
  rintro e w' ⟨rfl, K⟩
  exact ⟨give own w.heap.size o, rfl, ⟨Sn.by (K.it.mono (fun b hb _ => h.1.2 b hb)) _⟩⟩
theorem Ro.stepA (h : Ro w0 own w r ks v q ms u) (kind k : Int) (hk : -9223372036854775808 ≤ k ∧ k ≤ 9223372036854775807) (hm : ks.length * 8 + 8 ≤ 140737488355328) : Calls Try.prog 9 #[ptr r, v, .agg #[.int .i64 kind, .int .i64 k]] w fun e w' => ∃ v' own', e = .returned (.tuple #[v', .bool true]) ∧ Aside (Ro w0 own' w' r (stepL kind k ks) v' q ms u) := by
  refine (step12 kind k hk h.a hm).mono ?_
  rintro e w' ⟨v', own', rfl, X⟩
  exact ⟨v', own', rfl, ⟨h.g.sn X.it.1 (by unfold In2; omega), X.it.2, h.b.sn X.it.1 (by unfold In2; omega) (by unfold In2; omega)⟩⟩
theorem Ro.stepB (h : Ro w0 own w r ks v q ms u) (kind k : Int) (hk : -9223372036854775808 ≤ k ∧ k ≤ 9223372036854775807) (hm : ms.length * 8 + 8 ≤ 140737488355328) : Calls Try.prog 9 #[ptr q, u, .agg #[.int .i64 kind, .int .i64 k]] w fun e w' => ∃ u' own', e = .returned (.tuple #[u', .bool true]) ∧ Aside (Ro w0 own' w' r ks v q (stepL kind k ms) u') := by
  refine (step12 kind k hk h.b hm).mono ?_
  rintro e w' ⟨v', own', rfl, X⟩
  exact ⟨v', own', rfl, ⟨h.g.sn X.it.1 (by unfold In2; omega), h.a.sn X.it.1 (by unfold In2; omega) (by unfold In2; omega), X.it.2⟩⟩
theorem Ro.swap (h : Ro w0 own w r ks v q ms u) (hm : ms.length * 8 ≤ 140737488355328) : Calls Try.prog 11 #[ptr q] w fun e w' => ∃ x, e = .returned x ∧ Aside (Keeps Nowhere w w' ∧ ∀ W, Keeps Nowhere w' W → Calls Try.prog 10 #[x, u] W fun e w'' => e = .returned (.bool true) ∧ Keeps Nowhere W w'') := h.b.lists hm
theorem op_at {zs : List OpV12} {sa : Option Addr} {m : Nat} {wr : World} (hat : ∀ i z, zs[i]? = some z → ∃ b o cs, sa = some ⟨b, o, none⟩ ∧ Op12Ok z cs ∧ cs.length = 2 ∧ ∀ j, j < 2 → w.cell? ⟨b, o + i * 2 + j, none⟩ = cs[j]?) (hm : m < zs.length) (hb : Below w.heap.size w wr) :
    ∃ (b o : Nat) (kind k : Int), sa = some ⟨b, o, none⟩ ∧ (-9223372036854775808 ≤ k ∧ k ≤ 9223372036854775807) ∧ wr.cell? ⟨b, o + m * 2, none⟩ = some (.int .i64 kind) ∧ wr.cell? ⟨b, o + m * 2 + 1, none⟩ = some (.int .i64 k) := by
  obtain ⟨sb, so, cs, rfl, ⟨hcs, hk⟩, _, hc⟩ := hat m _ (List.getElem?_eq_getElem hm)
  subst hcs
  have ev0 : ∀ {q v}, w.cell? q = some v → wr.cell? q = some v := fun {q v} h => by rw [World.cell?_of_block (hb.block _ (World.block_lt_of_cell? w _ h))]; exact h
  exact ⟨sb, so, _, _, rfl, hk, ev0 (hc 0 (by decide)), ev0 (hc 1 (by decide))⟩

set_option maxHeartbeats 8000000 in
set_option maxRecDepth 20000 in
theorem robinOwn_walk (v1 : Value) (zs : List OpV12) (v2 : Value) (ys : List OpV12) (w : World) (hz : Ops12Arg w v1 zs) (hy : Ops12Arg w v2 ys) : Calls Try.prog 6 #[v1, v2] w fun e w' => e = .returned (.bool true) ∧ Below w.heap.size w w' := by
  obtain ⟨hz, hzb⟩ := hz
  obtain ⟨sa, cap, rfl, hlc, hcm, hat⟩ := hz
  obtain ⟨hy, hyb⟩ := hy
  obtain ⟨sb, capb, rfl, hlcb, hcmb, hatb⟩ := hy
  have HA := Aside.mk hat
  have HB := Aside.mk hatb
  obtain ⟨M, hM⟩ : ∃ M, M = zs.length := ⟨_, rfl⟩
  obtain ⟨N, hN⟩ : ∃ N, N = ys.length := ⟨_, rfl⟩
  rw [← hM] at hlc hzb ⊢
  rw [← hN] at hlcb hyb ⊢
  have HM := Aside.mk hM
  have HN := Aside.mk hN
  have hMb : M ≤ 8796093021952 := by omega
  have hNb : N ≤ 8796093021952 := by omega
  have WK := Aside.mk (wakes12 w)
  clear hM hcm hzb hat hN hcmb hyb hatb
  go_enter Try.func6, Try.ntmps6
  go_upto_region 4 with (first
    | (go_at_call 7; refine WK.it.mono ?_; clear WK; rintro e w1 ⟨rfl, K1⟩; have NW := Aside.mk (Rbint.newO (fun _ => 0) 1 w1))
    | (go_at_call 8; have _u := NX; clear _u; refine NX.it.mono ?_; clear NX; rintro e w3 ⟨q, rfl, R3⟩)
    | (go_at_call 8; refine NW.it.mono ?_; clear NW; rintro e w2 ⟨r, rfl, R2⟩; have NX := Aside.mk (Rbint.newO (give (fun _ => 0) w1.heap.size 1) 3 w2))
    | fail)
  have X3 : Aside (∃ own3, Ro w own3 w3 r [] (.slice none 0 0) q [] (.slice none 0 0)) := by
    have g1 : Ground w.heap.size w (fun _ => 0) w1 := ⟨fun _ _ => rfl, K1.it, K1.it.size⟩
    have g2 : Ground w.heap.size w (give (fun _ => 0) w1.heap.size 1) w2 := g1.step (R2.it.1.any (S := fun _ => 0 = 1)) (by decide) 1
    have s3 : Sn (fun _ => False) (give (fun _ => 0) w1.heap.size 1) w2 (give (give (fun _ => 0) w1.heap.size 1) w2.heap.size 3) w3 := Sn.quiet R3.it.1 _
    exact ⟨⟨_, g2.sn s3 (fun x => x), Rw.new (R2.it.2.sn s3 (fun x => x)), Rw.new R3.it.2⟩⟩
  clear R2 K1 R3
  go_wp2_with fail
  go_loopw [7, 8, 9] (fun lv mv iv wr => ∃ (m : Nat) (ks ms : List Int) (own : Nat → Nat) (qa : Option Addr) (qc : Nat) (pa : Option Addr) (pc : Nat), lv = .slice qa ks.length qc ∧ mv = .slice pa ms.length pc ∧ iv = .int .i64 m ∧ (m ≤ M ∨ m ≤ N) ∧ (ks.length ≤ m ∧ ks.length ≤ M) ∧ (ms.length ≤ m ∧ ms.length ≤ N) ∧ Aside (Ro w own wr r ks (.slice qa ks.length qc) q ms (.slice pa ms.length pc))) (fun _ _ iv _ => max M N - (intOf iv).toNat)
  case atStart =>
    obtain ⟨own3, X⟩ := X3.it
    exact ⟨0, [], [], own3, none, 0, none, 0, rfl, rfl, rfl, .inl (Nat.zero_le _), ⟨Nat.le_refl _, Nat.zero_le _⟩, ⟨Nat.le_refl _, Nat.zero_le _⟩, ⟨X⟩⟩
  case round =>
    clear X3
    obtain ⟨m, ks, ms, own, qa, qc, pa, pc, rfl, rfl, rfl, hm, hkm, hmm, X⟩ := hrel
    have hmx : (m : Int) ≤ 8796093021952 := by omega
    by_cases h1 : m < M
    · have h1' : (m : Int) < (M : Int) := by omega
      obtain ⟨xb, xo, kind, k, rfl, hk, r0, r1⟩ := op_at (m := m) HA.it (by have := HM.it; omega) X.it.g.bel
      have SP := Aside.mk (X.it.stepA kind k hk (by omega))
      have LE := stepL_len kind k ks
      clear X hk
      go_upto_if 50 with (first | (go_at_call 9; refine SP.it.mono ?_; clear SP; rintro e w3 ⟨v3, own3, rfl, Y⟩) | fail)
      obtain ⟨a3, c3, e3⟩ := Y.it.a.shape
      subst e3
      have hkm' : (stepL kind k ks).length ≤ m + 1 ∧ (stepL kind k ks).length ≤ M := by omega
      generalize stepL kind k ks = ks' at *
      clear r0 r1 LE
      by_cases h2 : m < N
      · have h2' : (m : Int) < (N : Int) := by omega
        obtain ⟨xb, xo, kind, k, rfl, hk, r0, r1⟩ := op_at (m := m) HB.it (by have := HN.it; omega) Y.it.g.bel
        have SP := Aside.mk (Y.it.stepB kind k hk (by omega))
        have LE := stepL_len kind k ms
        clear Y hk
        go_upto_region 13 with (first | (go_at_call 9; refine SP.it.mono ?_; clear SP; rintro e w4 ⟨u3, own4, rfl, Y⟩) | fail)
        obtain ⟨a4, c4, e4⟩ := Y.it.b.shape
        subst e4
        have hmm' : (stepL kind k ms).length ≤ m + 1 ∧ (stepL kind k ms).length ≤ N := by omega
        generalize stepL kind k ms = ms' at *
        clear r0 r1 LE
        go_wp2_with (first | (go_at_call 11; have _u := Z6; clear _u; refine (Z6.it.swap (by omega)).mono ?_; rintro e w17 ⟨x4, rfl, Z7⟩; have G7 := Aside.mk (Z6.it.quiet Z7.it.1); clear Z6) | (go_at_call 10; have _u := Z7; clear _u; refine (Z7.it.2 _ (Keeps.refl _ _)).mono ?_; rintro e w18 ⟨rfl, k8⟩; have Z8 := Aside.mk (G7.it.quiet k8); clear Z7 G7 k8) | (go_at_call 10; have _u := Z5; clear _u; refine (Z5.it.1.same Z5.it.2 (by unfold maxLen; omega)).mono ?_; rintro e w16 ⟨rfl, K5⟩; have Z6 := Aside.mk (Z5.it.1.quiet K5.it); clear Z5 K5) | (go_at_call 19; have _u := Z4; clear _u; refine (Z4.it.2.1.wipe _ (by omega)).mono ?_; rintro e w15 ⟨own15, rfl, S5⟩; have Z5 := Aside.mk (And.intro (Z4.it.1.sn S5.it (by intro k h e; omega)) (Z4.it.2.2.sn S5.it (by decide))); clear Z4 S5) | (go_at_call 11; have _u := Z3; clear _u; refine (Z3.it.1.list 7 (by omega)).mono ?_; rintro e w14 ⟨x3, own14, rfl, L4⟩; have Z4 := Aside.mk (And.intro L4.it.1 (And.intro (Z3.it.2.sn L4.it.2.2 (fun x => x)) L4.it.2.1)); clear Z3 L4) | (go_at_call 10; have _u := Z2; clear _u; refine (Z2.it.1.same Z2.it.2 (by unfold maxLen; omega)).mono ?_; rintro e w13 ⟨rfl, K3⟩; have Z3 := Aside.mk (And.intro (Z2.it.1.quiet K3.it) (Z2.it.2.sn (I := fun _ => False) (Sn.same K3.it) (fun x => x))); clear Z2 K3) | (go_at_call 19; have _u := Z1; clear _u; refine (Z1.it.2.1.wipe _ (by omega)).mono ?_; rintro e w12 ⟨own12, rfl, S2⟩; have Z2 := Aside.mk (And.intro (Z1.it.1.sn S2.it (by intro k h e; omega)) (Z1.it.2.2.sn S2.it (by decide))); clear Z1 S2) | (go_at_call 11; have _u := Z0; clear _u; refine (Z0.it.1.list 6 (by omega)).mono ?_; rintro e w11 ⟨x2, own11, rfl, L1⟩; have Z1 := Aside.mk (And.intro L1.it.1 (And.intro (Z0.it.2.sn L1.it.2.2 (fun x => x)) L1.it.2.1)); clear Z0 L1) | (go_at_call 11; have _u := Y; clear _u; refine (Y.it.list 5 (by omega)).mono ?_; rintro e w10 ⟨x1, own10, rfl, L0⟩; have Z0 := Aside.mk (And.intro L0.it.1 L0.it.2.1); clear Y L0) | fail)
        exact ⟨⟨m + 1, ks', ms', own15, a3, c3, a4, c4, rfl, rfl, by go_num, by omega, hkm', hmm', Z8⟩, by simp [intOf]; omega⟩
      · have h2' : ¬ (m : Int) < (N : Int) := by omega
        go_wp2_with (first | (go_at_call 11; have _u := Z6; clear _u; refine (Z6.it.swap (by omega)).mono ?_; rintro e w17 ⟨x4, rfl, Z7⟩; have G7 := Aside.mk (Z6.it.quiet Z7.it.1); clear Z6) | (go_at_call 10; have _u := Z7; clear _u; refine (Z7.it.2 _ (Keeps.refl _ _)).mono ?_; rintro e w18 ⟨rfl, k8⟩; have Z8 := Aside.mk (G7.it.quiet k8); clear Z7 G7 k8) | (go_at_call 10; have _u := Z5; clear _u; refine (Z5.it.1.same Z5.it.2 (by unfold maxLen; omega)).mono ?_; rintro e w16 ⟨rfl, K5⟩; have Z6 := Aside.mk (Z5.it.1.quiet K5.it); clear Z5 K5) | (go_at_call 19; have _u := Z4; clear _u; refine (Z4.it.2.1.wipe _ (by omega)).mono ?_; rintro e w15 ⟨own15, rfl, S5⟩; have Z5 := Aside.mk (And.intro (Z4.it.1.sn S5.it (by intro k h e; omega)) (Z4.it.2.2.sn S5.it (by decide))); clear Z4 S5) | (go_at_call 11; have _u := Z3; clear _u; refine (Z3.it.1.list 7 (by omega)).mono ?_; rintro e w14 ⟨x3, own14, rfl, L4⟩; have Z4 := Aside.mk (And.intro L4.it.1 (And.intro (Z3.it.2.sn L4.it.2.2 (fun x => x)) L4.it.2.1)); clear Z3 L4) | (go_at_call 10; have _u := Z2; clear _u; refine (Z2.it.1.same Z2.it.2 (by unfold maxLen; omega)).mono ?_; rintro e w13 ⟨rfl, K3⟩; have Z3 := Aside.mk (And.intro (Z2.it.1.quiet K3.it) (Z2.it.2.sn (I := fun _ => False) (Sn.same K3.it) (fun x => x))); clear Z2 K3) | (go_at_call 19; have _u := Z1; clear _u; refine (Z1.it.2.1.wipe _ (by omega)).mono ?_; rintro e w12 ⟨own12, rfl, S2⟩; have Z2 := Aside.mk (And.intro (Z1.it.1.sn S2.it (by intro k h e; omega)) (Z1.it.2.2.sn S2.it (by decide))); clear Z1 S2) | (go_at_call 11; have _u := Z0; clear _u; refine (Z0.it.1.list 6 (by omega)).mono ?_; rintro e w11 ⟨x2, own11, rfl, L1⟩; have Z1 := Aside.mk (And.intro L1.it.1 (And.intro (Z0.it.2.sn L1.it.2.2 (fun x => x)) L1.it.2.1)); clear Z0 L1) | (go_at_call 11; have _u := Y; clear _u; refine (Y.it.list 5 (by omega)).mono ?_; rintro e w10 ⟨x1, own10, rfl, L0⟩; have Z0 := Aside.mk (And.intro L0.it.1 L0.it.2.1); clear Y L0) | fail)
        exact ⟨⟨m + 1, ks', ms, own15, a3, c3, pa, pc, rfl, rfl, by go_num, by omega, hkm', by omega, Z8⟩, by simp [intOf]; omega⟩
    have h1' : ¬ (m : Int) < (M : Int) := by omega
    by_cases h2 : m < N
    · have h2' : (m : Int) < (N : Int) := by omega
      obtain ⟨xb, xo, kind, k, rfl, hk, r0, r1⟩ := op_at (m := m) HB.it (by have := HN.it; omega) X.it.g.bel
      have SP := Aside.mk (X.it.stepB kind k hk (by omega))
      have LE := stepL_len kind k ms
      clear X hk
      go_upto_region 13 with (first | (go_at_call 9; refine SP.it.mono ?_; clear SP; rintro e w4 ⟨u3, own4, rfl, Y⟩) | fail)
      obtain ⟨a4, c4, e4⟩ := Y.it.b.shape
      subst e4
      have hmm' : (stepL kind k ms).length ≤ m + 1 ∧ (stepL kind k ms).length ≤ N := by omega
      generalize stepL kind k ms = ms' at *
      clear r0 r1 LE
      go_wp2_with (first | (go_at_call 11; have _u := Z6; clear _u; refine (Z6.it.swap (by omega)).mono ?_; rintro e w17 ⟨x4, rfl, Z7⟩; have G7 := Aside.mk (Z6.it.quiet Z7.it.1); clear Z6) | (go_at_call 10; have _u := Z7; clear _u; refine (Z7.it.2 _ (Keeps.refl _ _)).mono ?_; rintro e w18 ⟨rfl, k8⟩; have Z8 := Aside.mk (G7.it.quiet k8); clear Z7 G7 k8) | (go_at_call 10; have _u := Z5; clear _u; refine (Z5.it.1.same Z5.it.2 (by unfold maxLen; omega)).mono ?_; rintro e w16 ⟨rfl, K5⟩; have Z6 := Aside.mk (Z5.it.1.quiet K5.it); clear Z5 K5) | (go_at_call 19; have _u := Z4; clear _u; refine (Z4.it.2.1.wipe _ (by omega)).mono ?_; rintro e w15 ⟨own15, rfl, S5⟩; have Z5 := Aside.mk (And.intro (Z4.it.1.sn S5.it (by intro k h e; omega)) (Z4.it.2.2.sn S5.it (by decide))); clear Z4 S5) | (go_at_call 11; have _u := Z3; clear _u; refine (Z3.it.1.list 7 (by omega)).mono ?_; rintro e w14 ⟨x3, own14, rfl, L4⟩; have Z4 := Aside.mk (And.intro L4.it.1 (And.intro (Z3.it.2.sn L4.it.2.2 (fun x => x)) L4.it.2.1)); clear Z3 L4) | (go_at_call 10; have _u := Z2; clear _u; refine (Z2.it.1.same Z2.it.2 (by unfold maxLen; omega)).mono ?_; rintro e w13 ⟨rfl, K3⟩; have Z3 := Aside.mk (And.intro (Z2.it.1.quiet K3.it) (Z2.it.2.sn (I := fun _ => False) (Sn.same K3.it) (fun x => x))); clear Z2 K3) | (go_at_call 19; have _u := Z1; clear _u; refine (Z1.it.2.1.wipe _ (by omega)).mono ?_; rintro e w12 ⟨own12, rfl, S2⟩; have Z2 := Aside.mk (And.intro (Z1.it.1.sn S2.it (by intro k h e; omega)) (Z1.it.2.2.sn S2.it (by decide))); clear Z1 S2) | (go_at_call 11; have _u := Z0; clear _u; refine (Z0.it.1.list 6 (by omega)).mono ?_; rintro e w11 ⟨x2, own11, rfl, L1⟩; have Z1 := Aside.mk (And.intro L1.it.1 (And.intro (Z0.it.2.sn L1.it.2.2 (fun x => x)) L1.it.2.1)); clear Z0 L1) | (go_at_call 11; have _u := Y; clear _u; refine (Y.it.list 5 (by omega)).mono ?_; rintro e w10 ⟨x1, own10, rfl, L0⟩; have Z0 := Aside.mk (And.intro L0.it.1 L0.it.2.1); clear Y L0) | fail)
      exact ⟨⟨m + 1, ks, ms', own15, qa, qc, a4, c4, rfl, rfl, by go_num, by omega, by omega, hmm', Z8⟩, by simp [intOf]; omega⟩
    · have h2' : ¬ (m : Int) < (N : Int) := by omega
      have LS := Aside.mk (X.it.a.lists (by omega))
      go_wp2_with (first
        | (go_at_call 11; refine LS.it.mono ?_; clear LS; rintro e w3 ⟨u, rfl, L3⟩; have G3 := Aside.mk (X.it.g.quiet L3.it.1))
        | (go_at_call 10; have _u := L3; clear _u; refine (L3.it.2 _ (Keeps.refl _ _)).mono ?_; clear L3; rintro e w4 ⟨rfl, k4⟩; have G4 := Aside.mk (G3.it.quiet k4))
        | fail)
      go_ret
      exact ⟨rfl, G4.it.bel⟩
end Go.Proofs.Ytekokdfajbajoaa
