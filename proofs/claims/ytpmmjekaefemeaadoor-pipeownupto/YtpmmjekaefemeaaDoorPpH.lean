/-
  package pipe: letGo, Move
-/
import Derived.Test.YtpmmjekaefemeaaDoorPpG
namespace Go.Proofs.YtpmmjekaefemeaaDoor
open Go.RowKit

section
variable {own own' own1 : Nat → Nat} {w w' w1 W : World} {rs rs1 : List (List Int)} {r r0 r1 L b : List Int} {I : Nat → Prop} {i d p qp gone ps : Nat} {q q1 : List El19} {bg fv : Value} {cut : Bool}

/-- whose memory a pipe's call may change: i+3 is the list of what a Move lets go -/
abbrev I19 (i : Nat) : Nat → Prop := fun k => k = i ∨ k = i + 1 ∨ k = i + 3
/-- t bytes were let go, as pieces -/
structure Lt (own : Nat → Nat) (w : World) (i p : Nat) (L : List Int) (ps t : Nat) (own1 : Nat → Nat) (w1 : World) (fv : Value) (rs : List (List Int)) : Prop where
  row : RowL own1 (i + 3) (i + 2) w1 fv rs
  fl : rs.flatten = L.take t
  ln : rs.length ≤ t
  pl : PpL own1 i w1 p (L.drop t) ps
  s : Sn (I19 i) own w own1 w1
theorem Lt.more {t k : Nat} {own2 own3 : Nat → Nat} {w2 w3 : World} {fv' : Value} (h : Lt own w i p L ps t own1 w1 fv rs) (hk : 1 ≤ k) (pl : PpL own2 i w2 p ((L.drop t).drop k) ps) (s : Sn (fun j => j = i ∨ j = i + 1) own1 w1 own2 w2)
    (row : RowL own3 (i + 3) (i + 2) w3 fv' (rs ++ [(L.drop t).take k])) (s3 : Sn (fun j => j = i + 3) own2 w2 own3 w3) : Lt own w i p L ps (t + k) own3 w3 fv' (rs ++ [(L.drop t).take k]) := by
  refine ⟨row, ?_, by have := h.ln; simp; omega, ?_, (h.s.trans (s.mono (fun _ e => e.elim .inl (fun e => .inr (.inl e))))).trans (s3.mono (fun _ e => .inr (.inr e)))⟩
  · rw [List.flatten_append, h.fl]
    simp [List.take_add]
  · rw [List.drop_drop] at pl
    exact pl.sn s3 (by omega) (by omega) (by omega)
set_option maxHeartbeats 1000000 in
theorem letGo19 (h : PpL own i w p L ps) (N : Nat) (hN : N ≤ L.length) (hL : L.length ≤ 2199023255551) :
    Calls Tryd.prog 30 #[ptr p, .int .i64 N] w fun e w' => ∃ a l c own' rs, e = .returned (.slice a l c) ∧ Aside (Lt own w i p L ps N own' w' (.slice a l c) rs) := by
  have S0 : Aside (Lt own w i p L ps 0 own w (.slice none 0 0) []) := ⟨⟨RowL.nil _ _ _ _, by simp, Nat.le_refl _, by simpa using h, Sn.refl _ _ _⟩⟩
  have HN := Aside.mk hN
  have HL := Aside.mk hL
  clear h hN hL
  go_enter Tryd.func30, Tryd.ntmps30
  go_upto_region 2 with fail
  go_loopw [1, 5, 6] (fun n x _ wr => ∃ (t m : Nat) (a : Option Addr) (l c : Nat) (own' : Nat → Nat) (rs : List (List Int)), n = .int .i64 m ∧ x = .slice a l c ∧ Aside (t + m = N) ∧ Aside (Lt own w i p L ps t own' wr (.slice a l c) rs)) (fun n _ _ _ => natOf n)
  case atStart => exact ⟨0, N, _, _, _, _, _, rfl, rfl, ⟨by omega⟩, S0⟩
  case round =>
    obtain ⟨t, m, a, l, c, own1, rs, rfl, rfl, ht, X⟩ := hrel
    clear S0
    by_cases hm : m = 0
    · subst hm
      go_wp2
      go_ret
      exact ⟨_, _, _, own1, rs, rfl, ⟨by have := X.it; rwa [show t = N from by have := ht.it; omega] at this⟩⟩
    · have LF := Aside.mk (letFirst19 X.it.pl (fun e => by have := congrArg List.length e; have := ht.it; have := HN.it; simp only [List.length_drop, List.length_nil] at *; omega) m (by omega) (by have := HL.it; rw [List.length_drop]; omega))
      have hm' : (0 : Int) < m := by omega
      clear hm
      go_upto_region 4 with (first
        | (go_at_call 34; refine LF.it.mono ?_; clear LF; rintro e w2 ⟨a2, k, c2, own2, rfl, hk, X2⟩)
        | fail)
      have R2 := Aside.mk (X.it.row.sn X2.it.2.2 (by omega) (by omega))
      have hlen : Aside (rs.length ≤ 4398046511103) := ⟨by have := X.it.ln; have := ht.it; have := HN.it; have := HL.it; omega⟩
      obtain ⟨m2, hm2⟩ : ∃ m2 : Nat, Aside (m2 + k = m) := ⟨m - k, ⟨by have := hk.it; omega⟩⟩
      have i1 : (m : Int) - k = (m2 : Int) := by have := hm2.it; omega
      have i2 : (m2 : Int) ≤ 9223372036854775807 := by have := hm2.it; have := ht.it; have := HN.it; have := HL.it; omega
      go_wp2_with (first
        | (at_builtin; refine wpList_appendL rfl (.tmp 12) (.tmp 14) rfl rfl R2.it X2.it.1 (by omega) hlen.it rfl rfl ?_; intro q3 l3 c3 w3 X3)
        | fail)
      go_roundw
      case rel => exact ⟨t + k, m2, _, _, _, _, _, rfl, rfl, ⟨by have := ht.it; have := hm2.it; omega⟩, ⟨X.it.more hk.it.1 X2.it.2.1 X2.it.2.2 X3.it.1 X3.it.2⟩⟩
      case measure => have := hk.it; have := hm2.it; simp only [natOf]; omega
theorem PpL.pass (h : PpL own i w p L ps) {P : Nat} (hP : P < 18446744073709551616) : PpL own i (w.setCell ⟨p, 3, none⟩ (.int .u64 P)) p L P ∧ Sn (I19 i) own w own (w.setCell ⟨p, 3, none⟩ (.int .u64 P)) := by
  obtain ⟨qp, q, bg, r0, rs, gone, h, e⟩ := h
  have s2 : Sn (fun k => k = i + 1) own w own (w.setCell ⟨p, 3, none⟩ (.int .u64 P)) := ⟨fun _ _ => rfl, (Keeps.refl _ _).setCell _ _ (fun _ => h.box.2)⟩
  exact ⟨⟨qp, q, bg, r0, rs, gone, ⟨⟨h.box.1.setCell 3 (.int .u64 P), h.box.2⟩, Fbs.FifoO_sn h.fifo s2 (by omega), h.bg.sn s2 (by omega), h.pcs.sn s2 (by omega), h.gl, hP⟩, e⟩, s2.mono (fun _ e => .inr (.inl e))⟩
set_option maxHeartbeats 1000000 in
theorem move_some19 (h : PpL own i w p L ps) (n : Int) (hL : L.length ≤ 2199023255551) (N : Nat) (hN : (N : Int) = if (L.length : Int) < n then (L.length : Int) else n) (h1 : 1 ≤ N) (o : Nat) :
    Calls Tryd.prog 14 #[ptr p, .int .i64 n] w fun e w' => ∃ a l c own', e = .returned (.slice a l c) ∧ Aside (RowB own' o w' (.slice a l c) (L.take N) ∧ (∀ b, (Value.slice a l c).ownBlock = some b → w.heap.size ≤ b) ∧ PpL own' i w' p (L.drop N) ((ps + N) % 18446744073709551616) ∧ Sn (I19 i) own w own' w') := by
  have LN := Aside.mk (len19 (cut := false) (.inr ⟨rfl, h⟩) hL)
  have H := Aside.mk h
  have HLL := Aside.mk hL
  have HNT : Aside (N ≤ L.length) := ⟨by split at hN <;> omega⟩
  obtain ⟨T, hT⟩ : ∃ T, L.length = T := ⟨_, rfl⟩
  have HT := Aside.mk hT
  rw [hT] at LN hN hL
  have HN := Aside.mk hN
  have hN' : N ≤ 2199023255551 := by have := HNT.it; omega
  have p0 : ¬ (N : Int) ≤ 0 := by omega
  obtain ⟨P, hP⟩ : ∃ P, (ps + N) % 18446744073709551616 = P := ⟨_, rfl⟩
  have hP64 : P < 18446744073709551616 := by omega
  rw [hP]
  have p64 : ps < 18446744073709551616 := by obtain ⟨_, _, _, _, _, _, h, _⟩ := h; exact h.p64
  clear h hT hN hL
  go_enter Tryd.func14, Tryd.ntmps14
  go_upto_region 2 with ((go_at_call 13; refine LN.it.mono ?_; rintro e w1 ⟨rfl, K1⟩; clear LN))
  rw [← HN.it]
  have H1 := Aside.mk (H.it.quiet K1.it)
  have c3 : w1.cell? ⟨p, 3, none⟩ = some (.int .u64 ps) := by obtain ⟨_, _, _, _, _, _, h, _⟩ := H1.it; exact h.cells.2.2.2.1
  have f3 : w1.frozen? ⟨p, 3, none⟩ = false := by obtain ⟨_, _, _, _, _, _, h, _⟩ := H1.it; exact h.box.1.frozen 3
  have H2 := Aside.mk (H1.it.pass hP64)
  have wr : IntKind.u64.wrap ((ps : Int) + N) = (P : Int) := by rw [show IntKind.u64.wrap ((ps : Int) + N) = ((ps : Int) + N) % 18446744073709551616 from rfl]; omega
  go_upto_region 5 with fail
  have LG := Aside.mk (letGo19 H2.it.1 N HNT.it HLL.it)
  go_wp2_with (first
    | (go_at_call 28; refine JN.it.mono ?_; rintro e w3 ⟨qa, ql, qc, rfl, X3⟩)
    | (go_at_call 30; refine LG.it.mono ?_; clear LG; rintro e w2 ⟨a2, l2, c2, own2, rs2, rfl, X2⟩; have JN := Aside.mk (join_ok X2.it.row.rdj (by rw [X2.it.fl, List.length_take]; omega) (by have := X2.it.ln; omega)))
    | fail)
  go_ret
  have hr := X3.it.rowB own2 o
  rw [X2.it.fl] at hr
  have s3 : Sn (fun _ => False) own2 w2 (give own2 w2.heap.size o) w3 := Sn.quiet X3.it.k o
  have ss : Sn (I19 i) own w own2 w2 := ((Sn.same K1.it).trans H2.it.2).trans X2.it.s
  refine ⟨_, _, _, _, rfl, ⟨hr, fun b hb => Nat.le_trans ss.keeps.size (owns_base X3.it.row b hb), X2.it.pl.sn s3 (fun x => x) (fun x => x) (fun x => x), ss.trans (s3.mono (fun _ x => x.elim))⟩⟩
theorem move_none19 (h : PpO own i w p L ps cut) (n : Int) (hn : n ≤ 0 ∨ L = []) (hL : L.length ≤ 2199023255551) : Calls Tryd.prog 14 #[ptr p, .int .i64 n] w fun e w' => e = .returned (.slice none 0 0) ∧ Aside (Keeps Nowhere w w') := by
  have LN := Aside.mk (len19 h hL)
  by_cases hr : L = []
  · subst hr
    clear hn h
    have e0 : Aside (([] : List Int).length = 0) := ⟨rfl⟩
    rw [e0.it] at LN
    rcases Int.lt_or_le 0 n with h | h
    · go_enter Tryd.func14, Tryd.ntmps14
      go_wp2_with (go_at_call 13; refine LN.it.mono ?_; rintro e w1 ⟨rfl, k1⟩)
      go_ret
      exact ⟨rfl, k1⟩
    · go_enter Tryd.func14, Tryd.ntmps14
      go_wp2_with (go_at_call 13; refine LN.it.mono ?_; rintro e w1 ⟨rfl, k1⟩)
      go_ret
      exact ⟨rfl, k1⟩
  · have hn' : n ≤ 0 := hn.resolve_right hr
    obtain ⟨T, hT⟩ : ∃ T, L.length = T := ⟨_, rfl⟩
    rw [hT] at LN
    have i1 : ¬ (T : Int) < n := by omega
    clear hn h hr hT
    go_enter Tryd.func14, Tryd.ntmps14
    go_wp2_with (go_at_call 13; refine LN.it.mono ?_; rintro e w1 ⟨rfl, k1⟩)
    go_ret
    exact ⟨rfl, k1⟩
theorem move19 (h : PpO own i w p L ps cut) (n : Int) (hL : L.length ≤ 2199023255551) (o : Nat) :
    Calls Tryd.prog 14 #[ptr p, .int .i64 n] w fun e w' => ∃ a l c own', e = .returned (.slice a l c) ∧ Aside (RowB own' o w' (.slice a l c) (L.take n.toNat) ∧ (∀ b, (Value.slice a l c).ownBlock = some b → w.heap.size ≤ b) ∧ PpO own' i w' p (L.drop n.toNat) ((ps + (L.take n.toNat).length) % 18446744073709551616) cut ∧ Sn (I19 i) own w own' w') := by
  by_cases hn : n ≤ 0 ∨ L = []
  · refine (move_none19 h n hn hL).mono ?_
    rintro e w' ⟨rfl, k⟩
    have h0 : L.take n.toNat = [] ∧ L.drop n.toNat = L := by
      rcases hn with hn | rfl
      · rw [show n.toNat = 0 by omega]; simp
      · simp
    rw [h0.1, h0.2, List.length_nil, Nat.add_zero, Nat.mod_eq_of_lt h.p64]
    exact ⟨_, _, _, own, rfl, ⟨RowB.nil _ _ _, fun b hb => by simp [Value.ownBlock] at hb, h.quiet k.it, Sn.same k.it⟩⟩
  · have hn' : 0 < n ∧ L ≠ [] := ⟨by omega, fun e => hn (.inr e)⟩
    have hlp := List.length_pos_iff.2 hn'.2
    rcases h with ⟨rfl, h0, _⟩ | ⟨rfl, h⟩
    · exact absurd h0 hn'.2
    · by_cases hlt : (L.length : Int) < n
      · refine (move_some19 h n hL L.length (by rw [if_pos hlt]) hlp o).mono ?_
        rintro e w' ⟨a, l, c, own', rfl, X⟩
        have e1 : L.take n.toNat = L := List.take_of_length_le (by omega)
        have e2 : L.drop n.toNat = L.drop L.length := by rw [List.drop_of_length_le (by omega), List.drop_of_length_le (Nat.le_refl _)]
        rw [e1, e2]
        have X1 := X.it.1
        rw [List.take_of_length_le (Nat.le_refl _)] at X1
        exact ⟨a, l, c, own', rfl, ⟨X1, X.it.2.1, .inr ⟨rfl, X.it.2.2.1⟩, X.it.2.2.2⟩⟩
      · refine (move_some19 h n hL n.toNat (by rw [if_neg hlt]; omega) (by omega) o).mono ?_
        rintro e w' ⟨a, l, c, own', rfl, X⟩
        rw [List.length_take, Nat.min_eq_left (by omega)]
        exact ⟨a, l, c, own', rfl, ⟨X.it.1, X.it.2.1, .inr ⟨rfl, X.it.2.2.1⟩, X.it.2.2.2⟩⟩
end
end Go.Proofs.YtpmmjekaefemeaaDoor
