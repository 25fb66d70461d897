/-
  RobinFair
-/
import Derived.Test.YtekokdfajbajoaaFr12
import Derived.Test.YtekokdfajbajoaaRbPl
namespace Go.Proofs.Ytekokdfajbajoaa
open Go.RowKit

variable {w w' w0 : World} {own own' : Nat → Nat} {r : Nat} {q q' T : List Int} {v v' : Value} {I : Nat → Prop}

/-- a robin above the ground, and those who were told -/
structure Ft (w0 : World) (own : Nat → Nat) (w : World) (r : Nat) (q : List Int) (v : Value) (T : List Int) : Prop where
  g : Ground w0.heap.size w0 own w
  rb : Rbint.RbO own 1 w r q
  tl : w.ownsRow 0 3 1 v T.length (iv T)
  mine : ∀ b, v.ownBlock = some b → own b = 2
  wide : ∀ z ∈ T, -9223372036854775808 ≤ z ∧ z ≤ 9223372036854775807
theorem Ft.sn (h : Ft w0 own w r q v T) (s : Sn I own w own' w') (hi : ∀ k, k < 3 → ¬ I k) : Ft w0 own' w' r q v T :=
  ⟨h.g.sn s (hi 0 (by decide)), h.rb.sn s (hi 1 (by decide)), owns_later h.tl s.keeps (fun b hb e => hi 2 (by decide) (h.mine b hb ▸ e)), fun b hb => (s.agree b (owns_lt h.tl b hb)).trans (h.mine b hb), h.wide⟩
theorem Ft.quiet (h : Ft w0 own w r q v T) (k : Keeps Nowhere w w') : Ft w0 own w' r q v T := h.sn (I := fun _ => False) (Sn.same k) (fun _ _ x => x)
theorem Ft.rbs (h : Ft w0 own w r q v T) (H : Keeps (fun c => own c = 1) w w' ∧ Rbint.RbO (give own w.heap.size 1) 1 w' r q') : Ft w0 (give own w.heap.size 1) w' r q' v T := by
  have s : Sn (fun k => k = 1) own w (give own w.heap.size 1) w' := Sn.by H.1 _
  exact ⟨h.g.sn s (by decide), H.2, owns_later h.tl s.keeps (fun b hb e => by have := h.mine b hb; omega), fun b hb => (s.agree b (owns_lt h.tl b hb)).trans (h.mine b hb), h.wide⟩
theorem Ft.told {x : Int} {o : Obj} (h : Ft w0 own w r q v T) (hx : -9223372036854775808 ≤ x ∧ x ≤ 9223372036854775807) (O : w'.ownsRow 0 3 1 v' (T.length + 1) (iv T ++ [.int .i64 x])) (K : Keeps (fun b => v.ownBlock = some b) (w.alloc o) w') (B : ∀ b, v'.ownBlock = some b → v.ownBlock = some b ∨ (w.alloc o).heap.size ≤ b) :
    Ft w0 (give own w.heap.size 2) w' r q v' (T ++ [x]) := by
  have k1 : Keeps (fun c => own c = 2) w w' := ((Keeps.refl _ w).alloc o).next K (fun c e _ => h.mine c e)
  have s : Sn (fun k => k = 2) own w (give own w.heap.size 2) w' := Sn.by k1 _
  refine ⟨h.g.sn s (by decide), h.rb.sn s (by decide), ?_, fun b hb => ?_, ?_⟩
  · rw [List.length_append, ← iv_append]; exact O
  · rcases B b hb with e | e
    · exact (s.agree b (owns_lt h.tl b e)).trans (h.mine b e)
    · rw [World.size_alloc] at e
      exact give_new (by omega)
  · intro z hz
    rcases List.mem_append.1 hz with hz | hz
    · exact h.wide z hz
    · rw [List.mem_singleton.1 hz]; exact hx
theorem Ft.shape (h : Ft w0 own w r q v T) : ∃ a c, v = .slice a T.length c := by
  obtain ⟨a, c, e, _⟩ := (owns_rdI h.tl h.wide).shape
  exact ⟨a, c, e⟩
theorem frst_cons (x : Int) (t : List Int) : frst 0 (x :: t) = x := rfl
theorem some1_cons (x : Int) (t : List Int) : some1 (x :: t) = true := rfl
theorem rotL_cons (x : Int) (t : List Int) : rotL (x :: t) = t ++ [x] := rfl
theorem addL_len (q : List Int) (k : Int) : (addL q k).length ≤ q.length + 1 := by unfold addL; split <;> simp
theorem remL_len (q : List Int) (k : Int) : (remL q k).length ≤ q.length := List.length_erase_le

set_option maxHeartbeats 8000000 in
set_option maxRecDepth 20000 in
theorem robinFair_walk (n : Int) (v : Value) (zs : List OpV12) (w : World) (hz : Ops12Arg w v zs) : Calls Try.prog 4 #[.int .i64 n, v] w fun e w' => e = .returned (.bool true) ∧ Below w.heap.size w w' := by
  obtain ⟨hz, hzb⟩ := hz
  obtain ⟨sa, cap, rfl, hlc, hcm, hat⟩ := hz
  have HA := Aside.mk hat
  obtain ⟨M, hM⟩ : ∃ M, M = zs.length := ⟨_, rfl⟩
  rw [← hM] at hlc hzb ⊢
  have HM := Aside.mk hM
  have hMb : M ≤ 8796093021952 := by omega
  have WK := Aside.mk (wakes12 w)
  clear hM hcm hzb hat
  go_enter Try.func4, Try.ntmps4
  by_cases hn : n < 1 ∨ 40 < n
  · by_cases h1 : n < 1
    · go_wp2_with (first | (go_at_call 7; refine WK.it.mono ?_; clear WK; rintro e w1 ⟨rfl, K1⟩) | fail)
      go_ret
      exact ⟨rfl, K1.it⟩
    · have h2 : n > 40 := by omega
      go_wp2_with (first | (go_at_call 7; refine WK.it.mono ?_; clear WK; rintro e w1 ⟨rfl, K1⟩) | fail)
      go_ret
      exact ⟨rfl, K1.it⟩
  obtain ⟨s, rfl⟩ : ∃ s : Nat, n = s := ⟨n.toNat, by omega⟩
  have hs1 : ¬ (s : Int) < 1 := by omega
  have hs2 : ¬ (s : Int) > 40 := by omega
  clear hn
  go_upto_region 6 with (first
    | (go_at_call 7; refine WK.it.mono ?_; clear WK; rintro e w1 ⟨rfl, K1⟩; have NW := Aside.mk (Rbint.newO (fun _ => 0) 1 w1))
    | (go_at_call 8; refine NW.it.mono ?_; clear NW; rintro e w2 ⟨r, rfl, R2⟩)
    | fail)
  have X2 : Aside (∃ own2, Ft w own2 w2 r [] (.slice none 0 0) []) := ⟨by
    have g1 : Ground w.heap.size w (fun _ => 0) w1 := ⟨fun _ _ => rfl, K1.it, K1.it.size⟩
    exact ⟨_, g1.step (R2.it.1.any (S := fun _ => 0 = 1)) (by decide) 1, R2.it.2, World.ownsRow_nil _ _ _ _, fun b hb => (by cases hb), fun z hz => (by simp at hz)⟩⟩
  clear R2 K1
  go_wp2_with fail
  go_loopw [6] (fun kv wr => ∃ (j : Nat) (own : Nat → Nat), kv = .int .i64 j ∧ j ≤ s ∧ Aside (Ft w own wr r (stays j) (.slice none 0 0) [])) (fun kv _ => s - (intOf kv).toNat)
  case atStart =>
    obtain ⟨own2, X⟩ := X2.it
    exact ⟨0, own2, rfl, Nat.zero_le _, ⟨X⟩⟩
  case round =>
    clear X2
    obtain ⟨j, own, rfl, hj, X⟩ := hrel
    by_cases hlt : j < s
    · have hlt' : (j : Int) < (s : Int) := by omega
      obtain ⟨u, hu⟩ : ∃ u, u = st j := ⟨_, rfl⟩
      have eu : -1 - (j : Int) = u := hu.symm
      have ub : -41 ≤ u ∧ u ≤ -1 := by rw [← eu]; omega
      have AD := Aside.mk (Rbint.addO (k := u) X.it.rb ⟨by omega, by omega⟩ (by rw [stays_len]; unfold maxLen; omega))
      have et : addT (stays j) u = true := by rw [hu]; exact addT_true (stays_not j)
      have el : addL (stays j) u = stays (j + 1) := by rw [hu, stays_succ]; exact addL_new (stays_not j)
      rw [et, el] at AD
      clear et el hu
      go_wp2_with (first | (go_at_call 13; refine AD.it.mono ?_; clear AD; rintro e w3 ⟨rfl, X3⟩) | fail)
      exact ⟨⟨j + 1, _, by go_num, by omega, ⟨X.it.rbs X3.it⟩⟩, by simp [intOf]; omega⟩
    · obtain rfl : j = s := by omega
      have LN := Aside.mk (Rbint.lenO X.it.rb)
      rw [stays_len] at LN
      go_wp2_with (first | (go_at_call 12; refine LN.it.mono ?_; clear LN; rintro e w3 ⟨rfl, rfl⟩) | fail)
      go_loopw [7, 8, 9] (fun mv tv iv wx => ∃ (m most : Nat) (q T : List Int) (own : Nat → Nat) (ta : Option Addr) (tc : Nat), mv = .int .i64 most ∧ tv = .slice ta T.length tc ∧ iv = .int .i64 m ∧ m ≤ M ∧ T.length ≤ m ∧ most ≤ j + m ∧ Aside (Fi j most q T) ∧ Aside (Ft w own wx r q (.slice ta T.length tc) T)) (fun _ _ iv _ => M - (intOf iv).toNat)
      case atStart => exact ⟨0, j, stays j, [], own, none, 0, rfl, rfl, rfl, Nat.zero_le _, Nat.le_refl _, Nat.le_refl _, ⟨Fi.start j⟩, X⟩
      case round =>
        clear X
        obtain ⟨m, most, q, T, own, ta, tc, rfl, rfl, rfl, hm, hTm, hmo, FI, X⟩ := hrel
        have hmx : (m : Int) ≤ 8796093021952 := by omega
        by_cases hlt : m < M
        · have hlt' : (m : Int) < (M : Int) := by omega
          obtain ⟨xb, xo, kind, k, rfl, hk, r0, r1⟩ := op_at (m := m) HA.it (by have := HM.it; omega) X.it.g.bel
          go_upto_region 17 with fail
          obtain ⟨g, hg⟩ : ∃ g, g = wr.heap.size := ⟨_, rfl⟩
          obtain ⟨w4, hw4⟩ : ∃ w4, w4 = wr.alloc (.cells #[.int .i64 kind, .int .i64 k] 30) := ⟨_, rfl⟩
          have k4 : Keeps Nowhere wr w4 := by rw [hw4]; exact (Keeps.refl _ _).alloc _
          have hc : Cells w4 g 30 [.int .i64 kind, .int .i64 k] := by rw [hw4, hg]; exact Cells.new wr _ _
          have c1 : w4.cell? ⟨g, 1, none⟩ = some (.int .i64 k) := hc.cell 1
          have f1 := hc.frozen 1
          have HG := Aside.mk (And.intro hg (And.intro k4 hc))
          rw [← hg, ← hw4]
          clear hg k4 hc hw4 r0 r1 HA
          go_upto_if 46 with fail
          go_cut [10] (fun bv wx => bv = ptr g ∧ ∃ k' : Int, Aside (0 ≤ k' ∧ k' ≤ 9223372036854775807) ∧ Aside (Cells wx g 30 [.int .i64 kind, .int .i64 k'] ∧ Keeps Nowhere wr wx))
          case first =>
            by_cases hk0 : k < 0
            · have e1 : -(k + 1) ≤ 9223372036854775807 := by omega
              have e2 : 0 ≤ -(k + 1) := by omega
              go_wp2_with fail
              go_meet
              case rel =>
                obtain ⟨hg, k4, hc⟩ := HG.it
                exact ⟨rfl, -(k + 1), ⟨by omega, by omega⟩, ⟨hc.setCell 1 _, k4.setCell ⟨g, 1, none⟩ _ (fun h => absurd h (by show ¬ g < _; omega))⟩⟩
            · go_wp2_with fail
              go_meet
              case rel =>
                obtain ⟨hg, k4, hc⟩ := HG.it
                exact ⟨rfl, k, ⟨by omega, by omega⟩, ⟨hc, k4⟩⟩
          case rest =>
            obtain ⟨rfl, k', hk', C⟩ := hcut
            clear c1 f1 HG hk
            have d0 : wc.cell? ⟨g, 0, none⟩ = some (.int .i64 kind) := C.it.1.cell 0
            have d1 : wc.cell? ⟨g, 1, none⟩ = some (.int .i64 k') := C.it.1.cell 1
            have X5 := Aside.mk (X.it.quiet C.it.2)
            clear X C
            by_cases e1 : kind = 1
            · subst e1
              have AD := Aside.mk (Rbint.addO (k := k') X5.it.rb ⟨by have := hk'.it; omega, by have := hk'.it; omega⟩ (by have := FI.it.big; unfold maxLen; omega))
              have hal := addL_len q k'
              have hqb := FI.it.big
              go_upto_region 28 with (first | (go_at_call 13; refine AD.it.mono ?_; clear AD; rintro e w6 ⟨rfl, R6⟩) | fail)
              have X6 := Aside.mk (X5.it.rbs R6.it)
              clear X5 R6
              have LN := Aside.mk (Rbint.lenO X6.it.rb)
              by_cases hmq : (addL q k').length ≤ most
              · have hmq' : ¬ (((addL q k').length : Nat) : Int) > (most : Int) := by omega
                go_wp2_with (first | (go_at_call 12; refine LN.it.mono ?_; rintro e w7 ⟨rfl, rfl⟩) | fail)
                exact ⟨⟨m + 1, most, _, T, _, ta, tc, rfl, rfl, by go_num, by omega, by omega, by omega, ⟨FI.it.add k' hmq (Nat.le_refl _)⟩, X6⟩, by simp [intOf]; omega⟩
              · have hmq' : (((addL q k').length : Nat) : Int) > (most : Int) := by omega
                go_wp2_with (first | (go_at_call 12; refine LN.it.mono ?_; rintro e w7 ⟨rfl, rfl⟩) | fail)
                exact ⟨⟨m + 1, (addL q k').length, _, T, _, ta, tc, rfl, rfl, by go_num, by omega, by omega, by omega, ⟨FI.it.add k' (Nat.le_refl _) (by omega)⟩, X6⟩, by simp [intOf]; omega⟩
            by_cases e2 : kind = 2
            · subst e2
              have RM := Aside.mk (Rbint.removeO (k := k') X5.it.rb ⟨by have := hk'.it; omega, by have := hk'.it; omega⟩)
              have hal := remL_len q k'
              have hqb := FI.it.big
              go_upto_region 28 with (first | (go_at_call 14; refine RM.it.mono ?_; clear RM; rintro e w6 ⟨rfl, R6⟩) | fail)
              have X6 := Aside.mk (X5.it.rbs R6.it)
              clear X5 R6
              have LN := Aside.mk (Rbint.lenO X6.it.rb)
              have hmq' : ¬ (((remL q k').length : Nat) : Int) > (most : Int) := by omega
              go_wp2_with (first | (go_at_call 12; refine LN.it.mono ?_; rintro e w7 ⟨rfl, rfl⟩) | fail)
              exact ⟨⟨m + 1, most, _, T, _, ta, tc, rfl, rfl, by go_num, by omega, by omega, by omega, ⟨FI.it.rem (by have := hk'.it; omega)⟩, X6⟩, by simp [intOf]; omega⟩
            obtain ⟨x, t, rfl⟩ := FI.it.there (by omega)
            have NX := Aside.mk (Rbint.nextO X5.it.rb)
            rw [frst_cons, some1_cons, rotL_cons] at NX
            have xb := RbO_ky X5.it.rb x List.mem_cons_self
            have hqb := FI.it.big
            go_upto_region 23 with (first | (go_at_call 15; refine NX.it.mono ?_; clear NX; rintro e w6 ⟨rfl, R6⟩) | fail)
            have X6 := Aside.mk (X5.it.rbs R6.it)
            clear X5 R6
            go_upto_region 28 with (first | (at_builtin; refine wpList_appendR rfl (.tmp 61) (.tmp 63) 26 rfl 3 (.int .i64 0) 1 8 Try.underlying26 info12 rfl (by decide) w6 ((Keeps.refl _ _).alloc _) 0 _ _ _ X6.it.tl _ 1 [.int .i64 x] (readsK_new _ _ _) (fun x hx => by rw [List.mem_singleton.1 hx]; rfl) (by omega) (by unfold maxLen; omega) (Nat.zero_le _) rfl rfl ?_; intro v' w' O' K' B') | fail)
            have X7 := Aside.mk (X6.it.told xb O'.it K'.it B'.it)
            clear X6 O' K' B'
            obtain ⟨a7, c7, e7⟩ := X7.it.shape
            subst e7
            have LN := Aside.mk (Rbint.lenO X7.it.rb)
            rw [List.length_append, List.length_singleton] at LN
            rw [List.length_cons] at hqb
            obtain ⟨tl, htl⟩ : ∃ tl, tl = t.length + 1 := ⟨_, rfl⟩
            rw [← htl] at LN hqb
            have hmq' : ¬ (tl : Int) > (most : Int) := by omega
            clear htl
            go_wp2_with (first | (go_at_call 12; refine LN.it.mono ?_; rintro e w7 ⟨rfl, rfl⟩) | fail)
            exact ⟨⟨m + 1, most, _, T ++ [x], _, a7, c7, rfl, by rw [List.length_append]; rfl, by go_num, by omega, by rw [List.length_append, List.length_singleton]; omega, by omega, ⟨FI.it.next⟩, X7⟩, by simp [intOf]; omega⟩
        · obtain rfl : m = M := by omega
          have rd := owns_rdI X.it.tl X.it.wide
          have F := Aside.mk (fair12 (stay := j) (most := most) rd (by omega) (by omega) (by omega) (by omega) FI.it.gap FI.it.last FI.it.bt)
          clear rd
          go_wp2_with (first | (go_at_call 16; refine F.it.mono ?_; clear F; rintro e w3 ⟨rfl, rfl⟩) | fail)
          go_ret
          exact ⟨rfl, X.it.g.bel⟩
end Go.Proofs.Ytekokdfajbajoaa
