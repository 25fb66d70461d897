/-
  package fifo at pair: New, Put, Head
-/
import Derived.Test.YtnljgklmaljfjaaDoorFpApair
import Derived.BigRegion
namespace Go.Proofs.YtnljgklmaljfjaaDoor.Fpair
open Go.RowKit

variable {w w' : World} {p rt rw : Nat} {q : List (El × Nat)} {v : Value} {first : Nat} {gone : List Value}

theorem step_appendP {P : Program} {W : World} {ops : Array Oper} {o : Oper} {a : Act} {K : Act → World → Prop} {Q : Exit → Act → World → Prop} {E : Prop} (tmp : Tmp) (hdst : o.dst = some tmp) (hgd : o.guard = none) (s x : Operand) (t : TypeId)
    (ho : o.op = .call { callee := .builtin .append, args := #[s, x], argTypes := #[t, t] }) (e : TypeId) (z : Value) (k bytes : Nat) (ht : P.underlying t = some (.slice e)) (hinfo : (P.info? e).map (fun i => (i.zero, i.size, i.bytes)) = some (some z, k, bytes))
    (hzs : z.cells.size = k) (h0 : 0 < k) (w : World) (hk : Keeps Nowhere w W) (base : Nat) (v : Value) (n : Nat) (xs : List Value) (hown : w.ownsRow base e k v n xs) (sv : Value) (m : Nat) (ys : List Value) (hr : ReadsK k W sv m ys) (h1 : ∀ u ∈ ys, u.oneCell' = true)
    (hb : (n + m) * bytes ≤ 140737488355328) (h63 : n + m ≤ maxLen) (hbase : base ≤ w.heap.size) (hs : a.eval s = v) (hx : a.eval x = sv)
    (h : ∀ q' l' c' w', Aside (w'.ownsRow base e k (.slice q' l' c') (n + m) (xs ++ ys)) → Aside (Keeps (fun b => v.ownBlock = some b) W w') → Aside (∀ b, (Value.slice q' l' c').ownBlock = some b → v.ownBlock = some b ∨ W.heap.size ≤ b) → K (a.put (some tmp) (.slice q' l' c')) w') : if Region.wanted o (yielded ops a.tmps) = true then Oper.wp P o a W K Q else E := by
  obtain ⟨i, hi, hz0, hz1, hz2⟩ := info_parts hinfo
  have hown' := owns_later hown hk (fun _ _ x => x)
  obtain ⟨v', w', run, o', g', b'⟩ := run_appendR (P := P) W base t e i z k bytes ht hi hz0 hz1 hz2 hzs h0 v n xs hown' sv m ys hr h1 hb h63 (Nat.le_trans hbase hk.size)
  obtain ⟨q', l', c', rfl⟩ := owns_shapeK o'
  exact step_appendK tmp hdst hgd s x t ho _ sv _ w' hs hx run (h q' l' c' w' ⟨o'⟩ ⟨grown_keeps g'⟩ ⟨b'⟩)
theorem new_bad (w : World) (t r : Int) (er : Value) (hc : w.cell? ⟨0, 0, none⟩ = some er) (hn : t < 0 ∨ r < 0) :
    Calls Tryd.prog 6 #[.int .i64 t, .int .i64 r] w fun e w' => e = .returned (.tuple #[.pointer none, er]) ∧ Keeps Nowhere w w' := by
  rcases Int.lt_or_le t 0 with h | h
  · clear hn
    go_enter Tryd.func6, Tryd.ntmps6
    go_wp2_with fail
    go_region_held_law (fun w' => w'.cell? ⟨0, 0, none⟩ = some er) (exact hc) (fail)
    go_wp2
    go_ret2
    exact ⟨rfl, (Keeps.refl _ _).drew⟩
  · have h' : r < 0 := by omega
    clear hn
    go_enter Tryd.func6, Tryd.ntmps6
    go_wp2_with fail
    go_region_held_law (fun w' => w'.cell? ⟨0, 0, none⟩ = some er) (exact hc) (fail)
    go_wp2
    go_ret2
    exact ⟨rfl, (Keeps.refl _ _).drew⟩
theorem new_good (w : World) (rt rw : Nat) (h1 : rt ≤ 9223372036854775807) (h2 : rw ≤ 9223372036854775807) :
    Calls Tryd.prog 6 #[.int .i64 rt, .int .i64 rw] w fun e w' => e = .returned (.tuple #[.pointer (some ⟨w.heap.size, 0, none⟩), .nilIface]) ∧ FifoIn w' w.heap.size rt rw [] (.slice none 0 0) 0 [] ∧ Keeps Nowhere w w' := by
  go_enter Tryd.func6, Tryd.ntmps6
  go_wp2
  go_ret2
  refine ⟨rfl, ⟨?_, World.ownsRow_nil _ _ _ _, rfl, Nat.zero_le _, Nat.zero_le _, h1, h2⟩, (Keeps.refl _ _).alloc _⟩
  exact Cells.new w _ (fifoCells rt rw (.slice none 0 0) 0 0)

theorem put_nil (w : World) (x : El) (n : Int) (er : Value) (hc : w.cell? ⟨1, 0, none⟩ = some er) :
    Calls Tryd.prog 10 #[.pointer none, .agg #[.string (txt x), .int .i64 x], .int .i64 n] w fun e w' => e = .returned er ∧ Keeps Nowhere w w' := by
  obtain ⟨W0, hW0⟩ : ∃ W0, W0 = w.alloc (.cells #[.string (txt x), .int .i64 x] 32) := ⟨_, rfl⟩
  have K0 : Aside (Keeps Nowhere w W0) := ⟨by rw [hW0]; exact (Keeps.refl _ _).alloc _⟩
  have C0 : Aside (Cells W0 w.heap.size 32 [.string (txt x), .int .i64 x]) := ⟨by rw [hW0]; exact Cells.new w _ _⟩
  have b0 : W0.cell? ⟨w.heap.size, 0, none⟩ = some (.string (txt x)) := by rw [C0.it.cell]; rfl
  have b1 : W0.cell? ⟨w.heap.size, 1, none⟩ = some (.int .i64 x) := by rw [C0.it.cell]; rfl
  have hc := alloc_cell (W := w) (Obj.cells #[.string (txt x), .int .i64 x] 32) hc
  rw [← hW0] at hc
  go_enter Tryd.func10, Tryd.ntmps10
  go_upto_region 1 with fail
  rw [← hW0]
  clear hW0
  go_wp2
  go_ret
  exact ⟨rfl, K0.it⟩
theorem put_range (w : World) (p : Nat) (x : El) (n : Int) (er : Value) (hc : w.cell? ⟨0, 0, none⟩ = some er) (hn : n < 0) :
    Calls Tryd.prog 10 #[.pointer (some ⟨p, 0, none⟩), .agg #[.string (txt x), .int .i64 x], .int .i64 n] w fun e w' => e = .returned er ∧ Keeps Nowhere w w' := by
  obtain ⟨W0, hW0⟩ : ∃ W0, W0 = w.alloc (.cells #[.string (txt x), .int .i64 x] 32) := ⟨_, rfl⟩
  have K0 : Aside (Keeps Nowhere w W0) := ⟨by rw [hW0]; exact (Keeps.refl _ _).alloc _⟩
  have C0 : Aside (Cells W0 w.heap.size 32 [.string (txt x), .int .i64 x]) := ⟨by rw [hW0]; exact Cells.new w _ _⟩
  have b0 : W0.cell? ⟨w.heap.size, 0, none⟩ = some (.string (txt x)) := by rw [C0.it.cell]; rfl
  have b1 : W0.cell? ⟨w.heap.size, 1, none⟩ = some (.int .i64 x) := by rw [C0.it.cell]; rfl
  have hc := alloc_cell (W := w) (Obj.cells #[.string (txt x), .int .i64 x] 32) hc
  rw [← hW0] at hc
  go_enter Tryd.func10, Tryd.ntmps10
  go_upto_region 1 with fail
  rw [← hW0]
  clear hW0
  go_wp2
  go_ret
  exact ⟨rfl, K0.it⟩
theorem put_full (h : FifoIn w p rt rw q v first gone) (x : El) (n : Nat) (er : Value) (hc : w.cell? ⟨2, 0, none⟩ = some er) (hn : rt ≤ q.length ∨ rw < sumW q + n) :
    Calls Tryd.prog 10 #[.pointer (some ⟨p, 0, none⟩), .agg #[.string (txt x), .int .i64 x], .int .i64 n] w fun e w' => e = .returned er ∧ Keeps Nowhere w w' := by
  obtain ⟨W0, hW0⟩ : ∃ W0, W0 = w.alloc (.cells #[.string (txt x), .int .i64 x] 32) := ⟨_, rfl⟩
  have K0 : Aside (Keeps Nowhere w W0) := ⟨by rw [hW0]; exact (Keeps.refl _ _).alloc _⟩
  have C0 : Aside (Cells W0 w.heap.size 32 [.string (txt x), .int .i64 x]) := ⟨by rw [hW0]; exact Cells.new w _ _⟩
  have b0 : W0.cell? ⟨w.heap.size, 0, none⟩ = some (.string (txt x)) := by rw [C0.it.cell]; rfl
  have b1 : W0.cell? ⟨w.heap.size, 1, none⟩ = some (.int .i64 x) := by rw [C0.it.cell]; rfl
  have hc := alloc_cell (W := w) (Obj.cells #[.string (txt x), .int .i64 x] 32) hc
  rw [← hW0] at hc
  have h := h.later K0.it (fun _ _ x => x)
  have L := hide (len_quiet h)
  have c0 : W0.cell? ⟨p, 0, none⟩ = some (.int .i64 rt) := by rw [h.cells.cell]; rfl
  have c1 : W0.cell? ⟨p, 1, none⟩ = some (.int .i64 rw) := by rw [h.cells.cell]; rfl
  have c4 : W0.cell? ⟨p, 4, none⟩ = some (.int .i64 (sumW q)) := by rw [h.cells.cell]; rfl
  have h1 := h.weight
  have h2 := h.rw63
  clear h
  obtain ⟨m, hm⟩ : ∃ m, m = q.length := ⟨_, rfl⟩
  obtain ⟨s, hs⟩ : ∃ s, s = sumW q := ⟨_, rfl⟩
  rw [← hm] at L hn
  rw [← hs] at c4 hn h1
  clear hm hs
  rcases Nat.lt_or_ge m rt with hl | hl
  · have hn' : (rw : Int) - s < n := by omega
    have hd : decide (rt ≤ m) = false := decide_eq_false (by omega)
    clear hn
    go_enter Tryd.func10, Tryd.ntmps10
    go_upto_region 1 with fail
    rw [← hW0]
    clear hW0
    go_wp2_with fail
    go_quiet ((go_at_call 32; exact L.out _))
    go_wp2
    all_goals first
      | (go_ret; exact ⟨rfl, K0.it.trans (keeps_drew ⟨_, rfl⟩)⟩)
      | (exfalso; omega)
  · have hd : rt ≤ m := hl
    have hd' : (rt : Int) ≤ m := by omega
    clear hn hl
    go_enter Tryd.func10, Tryd.ntmps10
    go_upto_region 1 with fail
    rw [← hW0]
    clear hW0
    go_wp2_with fail
    go_quiet ((go_at_call 32; exact L.out _))
    go_wp2
    all_goals first
      | (go_ret; exact ⟨rfl, K0.it.trans (keeps_drew ⟨_, rfl⟩)⟩)
      | (exfalso; omega)
theorem put_ok (h : FifoIn w p rt rw q v first gone) (x : El) (n : Nat) (hl : q.length < rt) (hn : sumW q + n ≤ rw) (hb : (first + q.length + 1) * by' ≤ 140737488355328) :
    Calls Tryd.prog 10 #[.pointer (some ⟨p, 0, none⟩), .agg #[.string (txt x), .int .i64 x], .int .i64 n] w fun e w' => e = .returned .nilIface ∧
      ∃ v', Aside (FifoIn w' p rt rw (q ++ [(x, n)]) v' first gone) ∧ Aside (∀ k, v'.ownBlock = some k → v.ownBlock = some k ∨ w.heap.size ≤ k) ∧ Aside (Keeps (Own p v) w w') := by
  obtain ⟨W0, hW0⟩ : ∃ W0, W0 = w.alloc (.cells #[.string (txt x), .int .i64 x] 32) := ⟨_, rfl⟩
  have K0 : Aside (Keeps Nowhere w W0) := ⟨by rw [hW0]; exact (Keeps.refl _ _).alloc _⟩
  have C0 : Aside (Cells W0 w.heap.size 32 [.string (txt x), .int .i64 x]) := ⟨by rw [hW0]; exact Cells.new w _ _⟩
  have b0 : W0.cell? ⟨w.heap.size, 0, none⟩ = some (.string (txt x)) := by rw [C0.it.cell]; rfl
  have b1 : W0.cell? ⟨w.heap.size, 1, none⟩ = some (.int .i64 x) := by rw [C0.it.cell]; rfl
  have h := h.later K0.it (fun _ _ x => x)
  obtain ⟨i0, hi, hz0, hz1, hz2⟩ := info_parts info
  have HI : Aside _ := ⟨hi⟩
  have HZ0 : Aside _ := ⟨hz0⟩
  have HZ1 : Aside _ := ⟨hz1⟩
  have HZ2 : Aside _ := ⟨hz2⟩
  have L := hide (len_quiet h)
  have c0 : W0.cell? ⟨p, 0, none⟩ = some (.int .i64 rt) := by rw [h.cells.cell]; rfl
  have c1 : W0.cell? ⟨p, 1, none⟩ = some (.int .i64 rw) := by rw [h.cells.cell]; rfl
  have c4 : W0.cell? ⟨p, 4, none⟩ = some (.int .i64 (sumW q)) := by rw [h.cells.cell]; rfl
  have h1 := h.weight
  have h2 := h.rw63
  have HH : Aside _ := ⟨h⟩
  have HB : Aside _ := ⟨hb⟩
  clear h hi hz0 hz1 hz2 hb
  obtain ⟨m, hm⟩ : ∃ m, m = q.length := ⟨_, rfl⟩
  obtain ⟨s, hs⟩ : ∃ s, s = sumW q := ⟨_, rfl⟩
  rw [← hm] at L hl
  rw [← hs] at c4 hn h1
  have HM : Aside _ := ⟨hm⟩
  have HS : Aside _ := ⟨hs⟩
  clear hm hs
  have hd : decide (rt ≤ m) = false := decide_eq_false (by omega)
  have hn' : (n : Int) ≤ (rw : Int) - s := by omega
  have hn2 : (s : Int) + n ≤ 9223372036854775807 := by omega
  have c2 : W0.cell? ⟨p, 2, none⟩ = some v := by rw [HH.it.cells.cell]; rfl
  obtain ⟨va, vl, vc, hv⟩ : ∃ a l c, v = .slice a l c := by
    rcases HH.it.shape with ⟨e, _⟩ | ⟨g, cap, e, _⟩
    · exact ⟨_, _, _, e⟩
    · exact ⟨_, _, _, e⟩
  subst hv
  have HN : Aside _ := ⟨hn⟩
  have HL : Aside _ := ⟨hl⟩
  clear hn hl h1
  go_enter Tryd.func10, Tryd.ntmps10
  go_upto_region 1 with fail
  rw [← hW0]
  clear hW0
  go_wp2_with fail
  go_quiet ((go_at_call 32; exact L.out _))
  go_wp2_with fail
  have c2a : ((W0.drewN (nq + 1)).alloc (Obj.cells #[.string (txt x), .int .i64 x, .int .i64 n] 81)).cell? ⟨p, 2, none⟩ = some (.slice va vl vc) := alloc_cell (W := W0.drewN (nq + 1)) _ c2
  go_region_law ((refine step_appendP 46 rfl rfl (.tmp 41) (.tmp 45) 73 rfl 81 zeroW (sz + 1) by' Tryd.underlying73 info rfl (by decide) W0 (((Keeps.refl _ _).drewN _).alloc _) 0 _ _ _ HH.it.row _ 1 (fl (x, n)) (readsK_new _ _ (fl (x, n))) (flat_one (x, n) ▸ flat_one' [(x, n)]) HB.it (by unfold maxLen; have := HB.it; simp only [by'] at this; omega) (Nat.zero_le _) rfl rfl ?_; intro g0 g1 g2 w' o' k' b'; have hcc := HH.it.cells.later (((Keeps.refl _ _).drewN _).alloc _ |>.any.trans k'.it) (HH.it.ne); have f2 := hcc.frozen 2; have f4 := hcc.frozen 4; have d2 : w'.cell? ⟨p, 2, none⟩ = some (.slice va vl vc) := (by rw [hcc.cell]; rfl); have d4 : w'.cell? ⟨p, 4, none⟩ = some (.int .i64 s) := (by rw [hcc.cell, HS.it]; rfl); have HCC : Aside _ := ⟨hcc⟩; clear hcc))
  all_goals go_wp2
  all_goals
    go_ret
    have hne : (Value.slice g0 g1 g2).ownBlock ≠ some p := owns_ne o'.it HCC.it (by decide)
    refine ⟨rfl, .slice g0 g1 g2, ⟨⟨?_, ?_, HH.it.glen, ?_, ?_, HH.it.rt63, HH.it.rw63⟩⟩, ⟨?_⟩, ⟨?_⟩⟩
    · have h := (HCC.it.setCell 2 (.slice g0 g1 g2)).setCell 4 (.int .i64 ((s : Int) + n))
      rw [show ((s : Int) + n) = ((sumW (q ++ [(x, n)]) : Nat) : Int) from by rw [sumW_append, ← HS.it, sumW_cons, sumW_nil]; simp] at h ⊢
      exact h
    · have h := owns_later (S := fun k => k = p) o'.it (((Keeps.refl (fun k => k = p) w').setCell ⟨p, 2, none⟩ (.slice g0 g1 g2) (fun _ => rfl)).setCell ⟨p, 4, none⟩ (.int .i64 ((s : Int) + n)) (fun _ => rfl)) (fun b hb e => hne (e ▸ hb))
      rw [flat_append, flat_one, ← List.append_assoc, List.length_append]
      exact h
    · have := HL.it
      have := HM.it
      simp only [List.length_append, List.length_cons, List.length_nil]
      omega
    · have := HN.it
      rw [sumW_append, ← HS.it, sumW_cons, sumW_nil]
      exact this
    · intro k hk
      rcases b'.it k hk with h | h
      · exact .inl h
      · right
        have := K0.it.size
        simp only [World.size_alloc] at h
        have h' : W0.heap.size + 1 ≤ k := h
        omega
    · exact K0.it.any.trans <| (((((Keeps.refl _ W0).drewN _).alloc _).trans (k'.it.mono (fun k hk _ => .inr hk))).setCell ⟨p, 2, none⟩ _ (fun _ => .inl rfl)).setCell ⟨p, 4, none⟩ _ (fun _ => .inl rfl)
theorem head_of (x : Value) (w : World) (L : Hid (∀ W, Keeps Nowhere w W → Calls Tryd.prog 32 #[x] W fun e w' => e = .returned (.int .i64 0) ∧ Keeps Nowhere W w')) :
    Calls Tryd.prog 18 #[x] w fun e w' => e = .returned (.tuple #[.agg #[.string ⟨#[]⟩, .int .i64 0], .int .i64 0, .bool false]) ∧ Keeps Nowhere w w' := by
  go_enter Tryd.func18, Tryd.ntmps18
  go_wp2_with fail
  refine (L.out _ ((Keeps.refl _ _).alloc _)).mono ?_
  rintro e w1 ⟨rfl, hk⟩
  have ck := (Cells.new w 32 [.string ⟨#[]⟩, .int .i64 0]).later hk (fun x => x)
  have cl := ck.later ((Keeps.refl Nowhere w1).alloc (.cells #[.string ⟨#[]⟩, .int .i64 0] 32)) (fun x => x)
  have z0 : (w1.alloc (.cells #[.string ⟨#[]⟩, .int .i64 0] 32)).cell? ⟨w.heap.size, 0, none⟩ = some (.string ⟨#[]⟩) := by rw [cl.cell]; rfl
  have z1 : (w1.alloc (.cells #[.string ⟨#[]⟩, .int .i64 0] 32)).cell? ⟨w.heap.size, 1, none⟩ = some (.int .i64 0) := by rw [cl.cell]; rfl
  have y0 := cl.frozen 0
  have y1 := cl.frozen 1
  have q0 : ((w1.alloc (.cells #[.string ⟨#[]⟩, .int .i64 0] 32)).setCell ⟨w.heap.size, 0, none⟩ (.string ⟨#[]⟩)).cell? ⟨w.heap.size, 0, none⟩ = some (.string ⟨#[]⟩) := by rw [(cl.setCell 0 _).cell]; rfl
  have q1 : (((w1.alloc (.cells #[.string ⟨#[]⟩, .int .i64 0] 32)).setCell ⟨w.heap.size, 0, none⟩ (.string ⟨#[]⟩)).setCell ⟨w.heap.size, 1, none⟩ (.int .i64 0)).cell? ⟨w.heap.size, 1, none⟩ = some (.int .i64 0) := by rw [((cl.setCell 0 _).setCell 1 _).cell]; rfl
  clear ck cl
  go_wp2
  refine bodyPost_ret (v := .tuple #[.agg #[.string ⟨#[]⟩, .int .i64 0], .int .i64 0, .bool false]) (by simp [results, Tryd.results18, go_sem, q0, q1]) rfl ?_
  exact ⟨rfl, (((((Keeps.refl Nowhere w).alloc _).trans hk).alloc _).setCell _ _ (fun h => absurd h (Nat.lt_irrefl _))).setCell _ _ (fun h => absurd h (Nat.lt_irrefl _))⟩
theorem head_nil (w : World) : Calls Tryd.prog 18 #[.pointer none] w fun e w' => e = .returned (.tuple #[.agg #[.string ⟨#[]⟩, .int .i64 0], .int .i64 0, .bool false]) ∧ Keeps Nowhere w w' :=
  head_of _ w (hide (fun _ _ => (len_nil _).mono fun e w' h => ⟨h.1, by rw [h.2]; exact Keeps.refl _ _⟩))
theorem head_empty (h : FifoIn w p rt rw [] v first gone) : Calls Tryd.prog 18 #[.pointer (some ⟨p, 0, none⟩)] w fun e w' => e = .returned (.tuple #[.agg #[.string ⟨#[]⟩, .int .i64 0], .int .i64 0, .bool false]) ∧ Keeps Nowhere w w' :=
  head_of _ w (hide (fun _ hk => len_in (h.later hk (fun _ _ x => x))))
theorem FifoIn.place (h : FifoIn w p rt rw q v first gone) (i : Nat) (x : El × Nat) (hx : q[i]? = some x) : ∃ g cap, v = .slice (some ⟨g, 0, none⟩) (first + q.length) cap ∧ first + q.length ≤ cap ∧ ∀ j, j < sz + 1 → w.cell? ⟨g, (first + i) * (sz + 1) + j, none⟩ = (fl x)[j]? := by
  rcases h.shape with ⟨_, _, rfl⟩ | ⟨g, cap, rfl, hc, _⟩
  · simp at hx
  · refine ⟨g, cap, rfl, hc, fun j hj => ?_⟩
    obtain ⟨_, a, c, he, _, _, _, hcell⟩ := owns_readsK h.row
    injection he with e1 _ e3
    subst e1 e3
    have hu : ∃ u, (fl x)[j]? = some u := ⟨_, List.getElem?_eq_getElem (by rw [fl_len]; exact hj)⟩
    obtain ⟨u, hu⟩ := hu
    have hat := flat_at q i x hx j hj
    obtain ⟨g', o, he, hce⟩ := hcell ((first + i) * (sz + 1) + j) u (by
      rw [List.getElem?_append_right (by rw [h.glen, Nat.add_mul]; omega), h.glen, ← hu, ← hat]
      congr 1
      rw [Nat.add_mul]
      omega)
    injection he with he
    injection he with e1 e2
    subst e1 e2
    rw [hu, ← hce, Nat.zero_add]
theorem head_in (x : El × Nat) (h : FifoIn w p rt rw (x :: q) v first gone) :
    Calls Tryd.prog 18 #[.pointer (some ⟨p, 0, none⟩)] w fun e w' => e = .returned (.tuple #[.agg #[.string (txt x.1), .int .i64 x.1], .int .i64 x.2, .bool true]) ∧ Keeps Nowhere w w' := by
  have L := hide (fun W (hk : Keeps Nowhere w W) => len_in (h.later hk (fun _ _ x => x)))
  have hs := h.small
  have HC : Aside _ := ⟨fun w1 (hk : Keeps Nowhere w w1) => h.later hk (fun _ _ x => x)⟩
  clear h
  obtain ⟨m, hm⟩ : ∃ m, m = q.length := ⟨_, rfl⟩
  simp only [List.length_cons, ← hm] at L hs
  have HM : Aside _ := ⟨hm⟩
  clear hm
  go_enter Tryd.func18, Tryd.ntmps18
  go_wp2_with fail
  refine (L.out _ ((Keeps.refl _ _).alloc _)).mono ?_
  rintro e w1 ⟨rfl, hk⟩
  have ck := (Cells.new w 32 [.string ⟨#[]⟩, .int .i64 0]).later hk (fun x => x)
  have z0 : w1.cell? ⟨w.heap.size, 0, none⟩ = some (.string ⟨#[]⟩) := by rw [ck.cell]; rfl
  have z1 : w1.cell? ⟨w.heap.size, 1, none⟩ = some (.int .i64 0) := by rw [ck.cell]; rfl
  have ck := Aside.mk ck
  have hk := ((Keeps.refl Nowhere w).alloc (.cells #[.string ⟨#[]⟩, .int .i64 0] 32)).trans hk
  have h := HC.it w1 hk
  obtain ⟨g, cap, hv, hcap, hc⟩ := h.place 0 x rfl
  subst hv
  have c2 : w1.cell? ⟨p, 2, none⟩ = some (.slice (some ⟨g, 0, none⟩) (first + (x :: q).length) cap) := by rw [h.cells.cell]; rfl
  have c3 : w1.cell? ⟨p, 3, none⟩ = some (.int .i64 first) := by rw [h.cells.cell]; rfl
  have e0 : w1.cell? ⟨g, first * 3, none⟩ = some (.string (txt x.1)) := hc 0 (by decide)
  have e1 : w1.cell? ⟨g, first * 3 + 1, none⟩ = some (.int .i64 x.1) := hc 1 (by decide)
  have e2 : w1.cell? ⟨g, first * 3 + 2, none⟩ = some (.int .i64 x.2) := hc 2 (by decide)
  rw [List.length_cons, ← HM.it] at c2
  have K1 : Aside _ := ⟨hk⟩
  clear hk h hc HC z0 z1
  have hm1 : ((m : Int) + 1) ≠ 0 := by omega
  go_wp2_with fail
  have hi1 : (0 : Int) ≤ first := by omega
  have hi2 : (first : Int) < (first : Int) + ((m : Int) + 1) := by omega
  have a2 := alloc_cell (W := w1) (Obj.cells #[.string ⟨#[]⟩, .int .i64 0, .int .i64 0] 81) (a := ⟨p, 2, none⟩) c2
  have a3 := alloc_cell (W := w1) (Obj.cells #[.string ⟨#[]⟩, .int .i64 0, .int .i64 0] 81) (a := ⟨p, 3, none⟩) c3
  have a0 := alloc_cell (W := w1) (Obj.cells #[.string ⟨#[]⟩, .int .i64 0, .int .i64 0] 81) (a := ⟨g, first * 3, none⟩) e0
  have a1 := alloc_cell (W := w1) (Obj.cells #[.string ⟨#[]⟩, .int .i64 0, .int .i64 0] 81) (a := ⟨g, first * 3 + 1, none⟩) e1
  have a4 := alloc_cell (W := w1) (Obj.cells #[.string ⟨#[]⟩, .int .i64 0, .int .i64 0] 81) (a := ⟨g, first * 3 + 2, none⟩) e2
  go_region
  have cl := ck.it.later ((Keeps.refl Nowhere w1).alloc (.cells #[.string (txt x.1), .int .i64 x.1, .int .i64 x.2] 81)) (fun x => x)
  have r0 : (w1.alloc (.cells #[.string (txt x.1), .int .i64 x.1, .int .i64 x.2] 81)).cell? ⟨w.heap.size, 0, none⟩ = some (.string ⟨#[]⟩) := by rw [cl.cell]; rfl
  have r1 : (w1.alloc (.cells #[.string (txt x.1), .int .i64 x.1, .int .i64 x.2] 81)).cell? ⟨w.heap.size, 1, none⟩ = some (.int .i64 0) := by rw [cl.cell]; rfl
  have y0 := cl.frozen 0
  have y1 := cl.frozen 1
  have q0 : ((w1.alloc (.cells #[.string (txt x.1), .int .i64 x.1, .int .i64 x.2] 81)).setCell ⟨w.heap.size, 0, none⟩ (.string (txt x.1))).cell? ⟨w.heap.size, 0, none⟩ = some (.string (txt x.1)) := by rw [(cl.setCell 0 _).cell]; rfl
  have q1 : (((w1.alloc (.cells #[.string (txt x.1), .int .i64 x.1, .int .i64 x.2] 81)).setCell ⟨w.heap.size, 0, none⟩ (.string (txt x.1))).setCell ⟨w.heap.size, 1, none⟩ (.int .i64 x.1)).cell? ⟨w.heap.size, 1, none⟩ = some (.int .i64 x.1) := by rw [((cl.setCell 0 _).setCell 1 _).cell]; rfl
  clear cl
  go_wp2_with fail
  go_region
  all_goals go_wp2
  refine bodyPost_ret (v := .tuple #[.agg #[.string (txt x.1), .int .i64 x.1], .int .i64 x.2, .bool true]) (by simp [results, Tryd.results18, go_sem, q0, q1]) rfl ?_
  exact ⟨rfl, ((((K1.it.alloc _).setCell _ _ (fun h => absurd h (Nat.lt_irrefl _))).setCell _ _ (fun h => absurd h (Nat.lt_irrefl _))).drewN 2)⟩
end Go.Proofs.YtnljgklmaljfjaaDoor.Fpair
