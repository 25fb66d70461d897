/-
  StatesKeeps, walked.
-/
import Derived.Test.YtbinopfcelebbaaDoorStE
namespace Go.Proofs.YtbinopfcelebbaaDoor
open Go.RowKit

section
variable {w w' : World} {A : Nat → Addr}
/-- n numbers in a new block -/
theorem readsK_list (w : World) (e : TypeId) (xs : List Value) (hm : xs.length ≤ maxLen) : ReadsK 1 (w.alloc (.cells xs.toArray e)) (.slice (some ⟨w.heap.size, 0, none⟩) xs.length xs.length) xs.length xs := by
  refine ⟨by simp, _, _, rfl, Nat.le_refl _, hm, fun h => (by cases h), fun j u hj => ⟨_, _, rfl, ?_⟩⟩
  have := (Cells.new w e xs).cell j
  rw [Nat.zero_add, this]
  exact hj
/-- a row that is not empty lies in a block -/
theorem owns_some {base : Nat} {e : TypeId} {k n : Nat} {v : Value} {xs : List Value} (h : w.ownsRow base e k v n xs) (hn : 0 < n) : ∃ g c, v = .slice (some ⟨g, 0, none⟩) n c ∧ n ≤ c := by
  rcases h.2 with ⟨_, h0⟩ | ⟨g, cap, cur, rfl, _, _, hc, _⟩
  · omega
  · exact ⟨g, cap, rfl, hc⟩
/-- rows of different types lie apart -/
theorem owns_apart {base base' : Nat} {e e' : TypeId} {k k' n n' : Nat} {v v' : Value} {xs ys : List Value} (h : w.ownsRow base e k v n xs) (h' : w.ownsRow base' e' k' v' n' ys) (hne : e ≠ e') (b : Nat) (hb : v.ownBlock = some b) : v'.ownBlock ≠ some b := by
  intro hb'
  rcases h.2 with ⟨rfl, _⟩ | ⟨g, cap, cur, rfl, _, hg, _⟩
  · simp [Value.ownBlock] at hb
  · rcases h'.2 with ⟨rfl, _⟩ | ⟨g', cap', cur', rfl, _, hg', _⟩
    · simp [Value.ownBlock] at hb'
    · simp only [Value.ownBlock, Option.some.injEq] at hb hb'
      subst hb hb'
      rw [hg] at hg'
      injection hg' with hg'
      injection hg' with _ hg'
      exact hne hg'
/-- a row of numbers of the call's own: its cells -/
theorem owns_int {base : Nat} {e : TypeId} {n g l c : Nat} {zs : List Int} (h : w.ownsRow base e 1 (.slice (some ⟨g, 0, none⟩) l c) n (iv zs)) (j : Nat) (z : Int) (hj : zs[j]? = some z) : w.cell? ⟨g, j, none⟩ = some (.int .i64 z) := by
  have := h.cells rfl j (.int .i64 z) (by simp [iv, hj])
  rwa [add_none, Nat.zero_add] at this
theorem intInfo9 : (Tryd.prog.info? 3).map (fun i => (i.zero, i.size, i.bytes)) = some (some (.int .i64 0), 1, 8) := by kernel_rfl

/-- the middle of the law: 'full' holds fs, 'now' its first k -/
structure Kp (A : Nat → Addr) (w0 : World) (n : Nat) (g c : Nat) (nv : Value) (fs : List Int) (k : Nat) (w : World) : Prop where
  f : w.ownsRow w0.heap.size 39 1 (.slice (some ⟨g, 0, none⟩) (n + 2) c) (n + 2) (iv fs)
  o : w.ownsRow w0.heap.size 3 1 nv k (iv (fs.take k))
  b : Below w0.heap.size w0 w
  bd : ∀ z ∈ fs, -9223372036854775808 ≤ z ∧ z ≤ 9223372036854775807
  st : St9 A w0
theorem Kp.len {n g c k : Nat} {nv : Value} {fs : List Int} {w0 : World} (h : Kp A w0 n g c nv fs k w) : fs.length = n + 2 := by
  have := h.f.1
  rwa [iv_length, Nat.mul_one] at this
theorem Kp.now {n g c k : Nat} {nv : Value} {fs : List Int} {w0 : World} (h : Kp A w0 n g c nv fs k w) : St9 A w := h.st.later h.b
/-- full[k] = y -/
theorem Kp.store {n g c k : Nat} {nv : Value} {fs : List Int} {w0 : World} (h : Kp A w0 n g c nv fs k w) (hk : k < n) (y : Int) (hy : -9223372036854775808 ≤ y ∧ y ≤ 9223372036854775807) : Kp A w0 n g c nv (fs.set k y) k (w.setCell ⟨g, k, none⟩ (.int .i64 y)) := by
  have hK : Keeps (fun b => b = g) w (w.setCell ⟨g, k, none⟩ (.int .i64 y)) := (Keeps.refl _ _).setCell _ _ (fun _ => rfl)
  refine ⟨?_, ?_, ?_, ?_, h.st⟩
  · have := owns_setCell h.f k (by omega) (.int .i64 y)
    rwa [show (iv fs).set k (.int .i64 y) = iv (fs.set k y) from by simp [iv, List.map_set]] at this
  · have := owns_later h.o hK (fun b hb e => owns_apart h.f h.o (by decide) b (by subst e; rfl) hb)
    rwa [show (fs.set k y).take k = fs.take k from by rw [List.take_set]; exact List.set_eq_of_length_le (by rw [List.length_take]; omega)]
  · exact below_next h.b hK h.b.size (fun b e _ => by subst e; exact owns_base h.f b rfl)
  · intro z hz
    rcases List.mem_or_eq_of_mem_set hz with hz | rfl
    · exact h.bd z hz
    · exact hy
/-- now = append(now, full[k]) -/
theorem Kp.app {n g c k : Nat} {nv nv' : Value} {fs : List Int} {w0 w1 : World} {x : Int} (h : Kp A w0 n g c nv fs k w) (hx : fs[k]? = some x) (k1 : Keeps Nowhere w w1) (O : w'.ownsRow w0.heap.size 3 1 nv' (k + 1) (iv (fs.take k) ++ [.int .i64 x])) (K : Keeps (fun b => nv.ownBlock = some b) w1 w') : Kp A w0 n g c nv' fs (k + 1) w' := by
  refine ⟨?_, ?_, ?_, h.bd, h.st⟩
  · exact owns_later (owns_later h.f k1 (fun _ _ x => x)) K (fun b hb e => owns_apart h.f h.o (by decide) b hb e)
  · rwa [show iv (fs.take k) ++ [.int .i64 x] = iv (fs.take (k + 1)) from by rw [take_one hx]; simp [iv]] at O
  · exact below_next (below_next h.b k1 h.b.size (fun _ x _ => x.elim)) K (Nat.le_trans h.b.size k1.size) (fun b hb _ => owns_base h.o b hb)
theorem owns_mono {base base' : Nat} {e : TypeId} {k n : Nat} {v : Value} {xs : List Value} (h : w.ownsRow base e k v n xs) (hb : base' ≤ base) : w.ownsRow base' e k v n xs := by
  refine ⟨h.1, ?_⟩
  rcases h.2 with h0 | ⟨g, cap, cur, rfl, hg, rest⟩
  · exact .inl h0
  · exact .inr ⟨g, cap, cur, rfl, Nat.le_trans hb hg, rest⟩
theorem Kp.quiet {n g c k : Nat} {nv : Value} {fs : List Int} {w0 : World} (h : Kp A w0 n g c nv fs k w) (hk : Keeps Nowhere w w') : Kp A w0 n g c nv fs k w' :=
  ⟨owns_later h.f hk (fun _ _ x => x), owns_later h.o hk (fun _ _ x => x), below_next h.b hk h.b.size (fun _ x _ => x.elim), h.bd, h.st⟩
theorem Kp.full {n g c k : Nat} {nv : Value} {fs : List Int} {w0 : World} (h : Kp A w0 n g c nv fs k w) : RdI w (.slice (some ⟨g, 0, none⟩) n c) (fs.take n) := (owns_rdI h.f h.bd).take n (by rw [h.len]; omega)
theorem kp_play {n g c k : Nat} {nv : Value} {fs : List Int} {w0 : World} (h : Aside (Kp A w0 n g c nv fs k w)) : Calls Tryd.prog 12 #[.slice (some ⟨g, 0, none⟩) n c] w fun x w' => ∃ u, x = .returned (.tuple #[.int .i64 (plS 0 (fs.take n)), .int .i64 (plN 0 (fs.take n)), u]) ∧ Hid (Coded A u (plE 0 (fs.take n))) ∧ Aside (Kp A w0 n g c nv fs k w') := by
  refine (play_any _ _ h.it.full h.it.now).mono ?_
  rintro x w' ⟨u, rfl, hu, m, rfl⟩
  exact ⟨u, rfl, hu, ⟨h.it.quiet ((Keeps.refl _ _).drewN m)⟩⟩
set_option maxRecDepth 20000 in
set_option maxHeartbeats 4000000 in
theorem statesKeeps_walk {A : Nat → Addr} (v : Value) (zs : List Int) (v' : Value) (ys : List Int) (w : World) (hs : St9 A w) (hz : IntsIArg w v zs) (hy : IntsIArg w v' ys) : Calls Tryd.prog 8 #[v, v'] w fun e w' => e = .returned (.bool true) ∧ Below w.heap.size w w' := by
  have H := Aside.mk hs
  have HZ := Aside.mk hz.1
  have H8 := Aside.mk hz.2
  obtain ⟨sa, sc, rfl, hlc, hmx, hat⟩ := hz.1
  obtain ⟨ta, tc, rfl, hmc, hmy, hau⟩ := hy.1
  obtain ⟨M, hM⟩ : ∃ M, Aside (M = zs.length) := ⟨_, ⟨rfl⟩⟩
  obtain ⟨L, hL⟩ : ∃ L, Aside (L = ys.length) := ⟨_, ⟨rfl⟩⟩
  rw [← hM.it] at hlc HZ ⊢
  rw [← hL.it] at hmc ⊢
  have hM63 : (M : Int) ≤ 17592186043904 := by have := H8.it; rw [← hM.it] at this; omega
  have HAT := Aside.mk hat
  have HAU := Aside.mk hau
  have HS := Aside.mk hs
  clear hs hz hy hat hau hmx hmy
  go_enter Tryd.func8, Tryd.ntmps8
  go_upto_region 3 with (first | (go_at_call 9; refine (wakes_p H).mono ?_; rintro x w1 ⟨rfl, K1, H1⟩) | fail)
  have E := Aside.mk (events_any _ zs (HZ.it.quiet K1.it) H8.it)
  have b1 := Aside.mk (show (M + 2) * 8 ≤ 140737488355328 by omega)
  have b2 := Aside.mk (show M + 2 ≤ maxLen by unfold maxLen; omega)
  clear H
  rw [← hM.it] at E
  go_upto_region 4 with (first
    | (go_at_call 13; refine E.it.mono ?_; rintro x w2 ⟨q, l, c, rfl, O2, B2⟩; have R2 := Aside.mk (readsK_list w2 39 [.int .i64 77, .int .i64 78] (by decide)); have K2 := Aside.mk ((Keeps.refl Nowhere w2).alloc (.cells #[.int .i64 77, .int .i64 78] 39)))
    | (refine wpList_appendR rfl _ _ 31 rfl 39 _ 1 8 Tryd.underlying31 evInfo rfl (by decide) w2 K2.it w1.heap.size _ M _ O2.it _ 2 [.int .i64 77, .int .i64 78] R2.it (by simp [Value.oneCell']) b1.it b2.it B2.it.size rfl rfl ?_; rintro u w3 O3 K3 B3; obtain ⟨g, c3, e, hc3⟩ := owns_some O3.it (by omega); subst e)
    | fail)
  have P3 : Aside (Kp A w M g c3 (.slice none 0 0) (zs ++ [77, 78]) 0 w3) := by
    have B1 : w.heap.size ≤ w1.heap.size := K1.it.size
    refine ⟨⟨?_, World.ownsRow_nil _ _ _ _, ?_, ?_, HS.it⟩⟩
    · have := owns_mono O3.it B1
      rwa [show iv zs ++ [.int .i64 77, .int .i64 78] = iv (zs ++ [77, 78]) from by simp [iv]] at this
    · refine below_next (below_next (below_next K1.it.bel (Keeps.ofBelow (S := Nowhere) B2.it) B1 (fun _ x _ => x.elim)) K2.it (Nat.le_trans B1 B2.it.size) (fun _ x _ => x.elim)) K3.it (Nat.le_trans (Nat.le_trans B1 B2.it.size) K2.it.size) (fun b hb _ => ?_)
      exact Nat.le_trans B1 (owns_base O2.it b hb)
    · intro z hz
      rcases List.mem_append.1 hz with hz | hz
      · exact HZ.it.bounds z hz
      · simp at hz; omega
  clear E O2 B2 O3 K3 B3 R2 K2 K1 H1 b1 b2 H8
  have m1 : M ≤ c3 := by omega
  go_upto_region 5 with (first | (go_at_call 12; refine (kp_play P3).mono ?_; rintro x w4 ⟨u, rfl, hu, P4⟩) | fail)
  clear P3 hu
  go_upto_region 6 with (first | (go_at_call 12; refine (kp_play P4).mono ?_; rintro x w5 ⟨u5, rfl, hu5, P5⟩) | fail)
  clear P4 hu5
  go_upto_region 7 with fail
  go_loopw [6] (fun x wr => ∃ (k : Nat), x = .int .i64 k ∧ k ≤ M ∧ Aside (Kp A w M g c3 (.slice none 0 0) (zs ++ [77, 78]) 0 wr)) (fun x _ => M - (intOf x).toNat)
  case atStart => exact ⟨0, rfl, Nat.zero_le _, P5⟩
  case round =>
    obtain ⟨k, rfl, hk, P6⟩ := hrel
    clear P5
    rcases Nat.eq_or_lt_of_le hk with e | hlt
    · subst e
      have c0 : wr.cell? ⟨g, k, none⟩ = some (.int .i64 77) := owns_int P6.it.f k 77 (by rw [hM.it]; simp)
      have c1 : wr.cell? ⟨g, k + 1, none⟩ = some (.int .i64 78) := owns_int P6.it.f (k + 1) 78 (by rw [hM.it]; simp)
      go_upto_region 15 with fail
      clear c0 c1 HAT
      go_loopw [7, 8] (fun nv x wr => ∃ (j : Nat) (fs : List Int) (q : Option Addr) (l c : Nat), nv = .slice q l c ∧ x = .int .i64 j ∧ j ≤ k ∧ Aside (Kp A w k g c3 (.slice q l c) fs j wr)) (fun _ x _ => k - (intOf x).toNat)
      case atStart => exact ⟨0, _, none, 0, 0, rfl, rfl, Nat.zero_le _, P6⟩
      case round =>
        obtain ⟨j, fs, q, l, c, rfl, rfl, hj, P7⟩ := hrel
        clear P6
        rcases Nat.eq_or_lt_of_le hj with e | hlt
        · subst e
          clear HAU
          have RN := Aside.mk (owns_rdI P7.it.o (fun z hz => P7.it.bd z (List.mem_of_mem_take hz)))
          have PL := Aside.mk (kp_play P7)
          have RP := Aside.mk (fun w h => rplay_any (.slice q l c) (fs.take j) w h)
          generalize plS 0 (fs.take j) = s at PL RP
          generalize plN 0 (fs.take j) = n at PL RP
          generalize plE 0 (fs.take j) = f at PL RP
          go_upto_region 21 with (first | (go_at_call 12; refine PL.it.mono ?_; rintro x w9 ⟨u, rfl, hu, P9⟩) | fail)
          have C := Aside.mk (RP.it _ (owns_rdI P9.it.o (fun z hz => P9.it.bd z (List.mem_of_mem_take hz))))
          have S9 := Aside.mk P9.it.now
          clear RP RN PL P7
          go_upto_region 22 with (first | (go_at_call 14; refine C.it.mono ?_; rintro x w4 ⟨rfl, rfl⟩) | fail)
          go_wp2_with (first | (go_at_call 15; refine (code_p S9 hu).mono ?_; rintro x w4 ⟨rfl, rfl⟩) | fail)
          go_ret
          exact ⟨by simp, P9.it.b⟩
        · have hf : fs[j]? = some (fs[j]'(by rw [P7.it.len]; omega)) := List.getElem?_eq_getElem _
          generalize fs[j]'(by rw [P7.it.len]; omega) = x at hf
          have i2 : (j : Int) < k := by omega
          have i3 : (0 : Int) ≤ j := by omega
          have i4 : (j : Int) ≤ 9223372036854775806 := by omega
          have i5 : (j : Int) < (k : Int) + 2 := by omega
          have b1 := Aside.mk (show (j + 1) * 8 ≤ 140737488355328 by omega)
          have b2 := Aside.mk (show j + 1 ≤ maxLen by unfold maxLen; omega)
          have c0 : wr.cell? ⟨g, j, none⟩ = some (.int .i64 x) := owns_int P7.it.f j x hf
          by_cases hl : j < L
          · have hx : ys[j]? = some (ys[j]'(by rw [← hL.it]; exact hl)) := List.getElem?_eq_getElem _
            generalize ys[j]'(by rw [← hL.it]; exact hl) = y at hx
            obtain ⟨hb, sb, so, rfl, hc0⟩ := HAU.it j y hx
            have hc : wr.cell? ⟨sb, so + j, none⟩ = some (.int .i64 y) := by rw [P7.it.b.cell (World.block_lt_of_cell? w _ hc0)]; exact hc0
            have i6 : (j : Int) < L := by omega
            have fz : wr.frozen? ⟨g, j, none⟩ = false := owns_frozen P7.it.f j
            have P8 := Aside.mk (P7.it.store hlt y hb)
            have hy : (fs.set j y)[j]? = some y := by rw [List.getElem?_set_self (by rw [P7.it.len]; omega)]
            have HY := Aside.mk hy
            clear hx HAU hc0 P7 hf hy
            go_upto_region 19 with fail
            clear c0 hc fz
            generalize wr.setCell ⟨g, j, none⟩ (.int .i64 y) = w8 at P8 ⊢
            have c0 : w8.cell? ⟨g, j, none⟩ = some (.int .i64 y) := owns_int P8.it.f j y HY.it
            have K1 := Aside.mk ((Keeps.refl Nowhere w8).alloc (.cells #[.int .i64 y] 3))
            have R1 := Aside.mk (readsK_new w8 3 [.int .i64 y])
            go_wp2_with (first
              | (refine wpList_appendR rfl _ _ 25 rfl 3 _ 1 8 Tryd.underlying25 intInfo9 rfl (by decide) w8 K1.it w.heap.size _ j _ P8.it.o _ 1 [.int .i64 y] R1.it (by simp [Value.oneCell']) b1.it b2.it P8.it.b.size rfl rfl ?_; rintro u w9 O9 K9 B9; obtain ⟨q9, l9, c9, e⟩ := owns_shapeK O9.it; subst e)
              | fail)
            go_roundw
            case rel => exact ⟨j + 1, _, q9, l9, c9, rfl, by go_num, hlt, ⟨P8.it.app HY.it K1.it O9.it K9.it⟩⟩
            case measure => simp [intOf]; omega
          · have i6 : ¬ (j : Int) < L := by omega
            have HF := Aside.mk hf
            clear HAU hf
            have K1 := Aside.mk ((Keeps.refl Nowhere wr).alloc (.cells #[.int .i64 x] 3))
            have R1 := Aside.mk (readsK_new wr 3 [.int .i64 x])
            go_wp2_with (first
              | (refine wpList_appendR rfl _ _ 25 rfl 3 _ 1 8 Tryd.underlying25 intInfo9 rfl (by decide) wr K1.it w.heap.size _ j _ P7.it.o _ 1 [.int .i64 x] R1.it (by simp [Value.oneCell']) b1.it b2.it P7.it.b.size rfl rfl ?_; rintro u w9 O9 K9 B9; obtain ⟨q9, l9, c9, e⟩ := owns_shapeK O9.it; subst e)
              | fail)
            go_roundw
            case rel => exact ⟨j + 1, _, q9, l9, c9, rfl, by go_num, hlt, ⟨P7.it.app HF.it K1.it O9.it K9.it⟩⟩
            case measure => simp [intOf]; omega
    · have hx : zs[k]? = some (zs[k]'(by rw [← hM.it]; exact hlt)) := List.getElem?_eq_getElem _
      generalize zs[k]'(by rw [← hM.it]; exact hlt) = x at hx
      have c0 : wr.cell? ⟨g, k, none⟩ = some (.int .i64 x) := owns_int P6.it.f k x (by rw [List.getElem?_append_left (by rw [← hM.it]; exact hlt)]; exact hx)
      obtain ⟨hb, sb, so, rfl, hc0⟩ := HAT.it k x hx
      have hc : wr.cell? ⟨sb, so + k, none⟩ = some (.int .i64 x) := by rw [P6.it.b.cell (World.block_lt_of_cell? w _ hc0)]; exact hc0
      have i2 : (k : Int) < M := by omega
      have i3 : (0 : Int) ≤ k := by omega
      have i4 : (k : Int) ≤ 9223372036854775806 := by omega
      have i5 : (k : Int) < (M : Int) + 2 := by omega
      clear hx HAT hc0
      go_upto_region 9 with fail
      go_quiet (fail)
      go_wp2
      go_roundw
      case rel => exact ⟨k + 1, by go_num, hlt, ⟨P6.it.quiet ((Keeps.refl _ _).drewN _)⟩⟩
      case measure => simp [intOf]; omega
end
end Go.Proofs.YtbinopfcelebbaaDoor
