/-
  package out: Take
-/
import Derived.Test.YtfphoaphdfhhiaaDoorOutD
import Derived.Test.YtfphoaphdfhhiaaDoorMkB
namespace Go.Proofs.YtfphoaphdfhhiaaDoor
open Go.RowKit

section
variable {own own' : Nat → Nat} {i j : Nat} {w w' : World} {p qp tot : Nat} {q : List (Nat × Nat)} {rs : List (List Int)} {r : List Int} {I : Nat → Prop}

theorem take_nilB (w : World) (n : Int) : Calls Tryd.prog 8 #[.pointer none, .int .i64 n] w fun e w' => e = .returned (.slice none 0 0) ∧ w' = w := by
  rcases Int.lt_or_le 0 n with h | h
  · go_enter Tryd.func8, Tryd.ntmps8
    go_wp2_with (go_at_call 13; refine (len_nilB w).mono ?_; rintro e w1 ⟨rfl, rfl⟩)
    go_ret
    exact ⟨rfl, rfl⟩
  · go_enter Tryd.func8, Tryd.ntmps8
    go_wp2_with (go_at_call 13; refine (len_nilB w).mono ?_; rintro e w1 ⟨rfl, rfl⟩)
    go_ret
    exact ⟨rfl, rfl⟩
theorem take_none (h : BufO own i j w p rs tot) (n : Int) (hn : n ≤ 0 ∨ rs = []) : Calls Tryd.prog 8 #[ptr p, .int .i64 n] w fun e w' => e = .returned (.slice none 0 0) ∧ Aside (Keeps Nowhere w w') := by
  have L := Aside.mk (lenB h)
  by_cases hr : rs = []
  · subst hr
    clear hn h
    have e0 : Aside (([] : List (List Int)).flatten.length = 0) := ⟨rfl⟩
    rw [e0.it] at L
    rcases Int.lt_or_le 0 n with h | h
    · go_enter Tryd.func8, Tryd.ntmps8
      go_wp2_with (go_at_call 13; refine L.it.mono ?_; rintro e w1 ⟨rfl, k1⟩)
      go_ret
      exact ⟨rfl, k1⟩
    · go_enter Tryd.func8, Tryd.ntmps8
      go_wp2_with (go_at_call 13; refine L.it.mono ?_; rintro e w1 ⟨rfl, k1⟩)
      go_ret
      exact ⟨rfl, k1⟩
  · have hn' : n ≤ 0 := hn.resolve_right hr
    obtain ⟨T, hT⟩ : ∃ T, T = rs.flatten.length := ⟨_, rfl⟩
    rw [← hT] at L
    have hnT : n ≤ (T : Int) := by omega
    clear hT hn h hr
    go_enter Tryd.func8, Tryd.ntmps8
    go_wp2_with (go_at_call 13; refine L.it.mono ?_; rintro e w1 ⟨rfl, k1⟩)
    go_ret
    exact ⟨rfl, k1⟩

theorem Sn.app {own0 : Nat → Nat} {w0 : World} {v : Value} (h : Sn I own0 w0 own w) (k1 : Keeps (fun b => v.ownBlock = some b) w w') (hb : ∀ b, v.ownBlock = some b → w0.heap.size ≤ b) (o : Nat) : Sn I own0 w0 (give own w.heap.size o) w' :=
  ⟨fun k hk => (give_old (Nat.lt_of_lt_of_le hk h.keeps.size)).trans (h.agree k hk), h.keeps.next k1 (fun k e hk => absurd (hb k e) (by omega))⟩
theorem Laids.flat_le (h : Laids own j w q rs) : rs.flatten.length ≤ Flaid.sumW q := by
  cases q with
  | nil => cases rs with
    | nil => exact Nat.le_refl _
    | cons r rs => exact h.elim
  | cons x q =>
    cases rs with
    | nil => exact h.elim
    | cons r rs =>
      obtain ⟨a, _, _⟩ := Whole.sum h.2
      have := h.1.2.1
      rw [Flaid.sumW_cons, a, List.flatten_cons, List.length_append]
      omega
theorem BufO.flat_le (h : BufO own i j w p rs tot) : rs.flatten.length ≤ tot := by
  obtain ⟨qp, q, h⟩ := h
  exact Nat.le_trans (Laids.flat_le h.laids) h.tot
theorem len_le_flat (h : ∀ r ∈ rs, r ≠ []) : rs.length ≤ rs.flatten.length := by
  induction rs with
  | nil => exact Nat.le_refl _
  | cons r rs ih =>
    have := List.length_pos_iff.2 (h r List.mem_cons_self)
    have := ih (fun x hx => h x (List.mem_cons_of_mem _ hx))
    simp only [List.flatten_cons, List.length_append, List.length_cons]
    omega
theorem BufO.len_le (h : BufO own i j w p rs tot) : rs.length ≤ tot := Nat.le_trans (len_le_flat h.ne) h.flat_le
theorem leftN_all (rs : List (List Int)) (n : Nat) (h : rs.flatten.length ≤ n) : leftN rs n = [] := by
  have h1 := leftN_flatten rs n
  rw [List.drop_of_length_le h] at h1
  cases hl : leftN rs n with
  | nil => rfl
  | cons r l =>
    rw [hl] at h1
    have := leftN_ne rs n r (by rw [hl]; exact List.mem_cons_self)
    simp only [List.flatten_cons, List.append_eq_nil_iff] at h1
    exact absurd h1.1 this
def lenS : Value → Nat
  | .slice _ l _ => l
  | _ => 0
structure TakeAt (own0 : Nat → Nat) (w0 : World) (i j o : Nat) (p : Nat) (rs : List (List Int)) (tot t : Nat) (x : Value) (own : Nat → Nat) (w : World) : Prop where
  row : RowB own o w x (rs.flatten.take t)
  base : ∀ b, x.ownBlock = some b → w0.heap.size ≤ b
  buf : BufO own i j w p (leftN rs t) tot
  sn : Sn (fun k => k = i ∨ k = j) own0 w0 own w
theorem TakeAt.more {own0 : Nat → Nat} {w0 w2 : World} {o t k : Nat} {x v' : Value} {own2 : Nat → Nat} (hoi : o ≠ i) (hoj : o ≠ j) (h : TakeAt own0 w0 i j o p rs tot t x own w) (b2 : BufO own2 i j w2 p (leftN (leftN rs t) k) tot) (s2 : Sn (fun k => k = i ∨ k = j) own w own2 w2)
    (o1 : w'.ownsRow 0 5 1 v' ((rs.flatten.take t) ++ (leftN rs t).flatten.take k).length (bv ((rs.flatten.take t) ++ (leftN rs t).flatten.take k))) (k1 : Keeps (fun b => x.ownBlock = some b) w2 w') (b1 : ∀ b, v'.ownBlock = some b → x.ownBlock = some b ∨ w2.heap.size ≤ b) :
    TakeAt own0 w0 i j o p rs tot (t + k) v' (give own2 w2.heap.size o) w' := by
  have ho : ¬ (o = i ∨ o = j) := fun e => e.elim hoi hoj
  have r2 := h.row.sn s2 ho
  obtain ⟨r3, s3⟩ := r2.app o1 k1 b1
  rw [take_leftN] at r3
  rw [leftN_leftN] at b2
  refine ⟨r3, fun b hb => ?_, b2.sn s3 (fun e => hoi e.symm) (fun e => hoj e.symm), (h.sn.trans s2).app k1 h.base o⟩
  rcases b1 b hb with e | e
  · exact h.base b e
  · exact Nat.le_trans (h.sn.trans s2).keeps.size e
set_option maxHeartbeats 1000000 in
theorem take_some {o : Nat} (hij : i ≠ j) (hoi : o ≠ i) (hoj : o ≠ j) (h : BufO own i j w p rs tot) (htot : tot ≤ 4398046511103) (n : Int) (hn : 0 < n) (hr : rs ≠ []) (N : Nat) (hN : (N : Int) = if (rs.flatten.length : Int) < n then (rs.flatten.length : Int) else n) :
    Calls Tryd.prog 8 #[ptr p, .int .i64 n] w fun e w' => ∃ x own', e = .returned x ∧ Aside (TakeAt own w i j o p rs tot N x own' w') := by
  have L := Aside.mk (lenB h)
  have hfl := h.flat_le
  have hfp := flat_pos h.ne hr
  have H := Aside.mk h
  obtain ⟨T, hT⟩ : ∃ T, Aside (T = rs.flatten.length) := ⟨_, ⟨rfl⟩⟩
  rw [← hT.it] at L hfl hfp hN
  have hN1 : 1 ≤ N := by split at hN <;> omega
  have hN2 : N ≤ T := by split at hN <;> omega
  have MK := Aside.mk (fun W => make_bytes W N o own (by omega))
  have HT := Aside.mk htot
  have p1 : ¬ (N : Int) ≤ 0 := by omega
  have HN := Aside.mk hN
  have hT63 : (T : Int) ≤ 9223372036854775807 := by omega
  clear h htot hr hfl hfp hN1 hN
  go_enter Tryd.func8, Tryd.ntmps8
  go_upto_region 2 with ((go_at_call 13; refine L.it.mono ?_; rintro e w1 ⟨rfl, k1⟩; clear L))
  rw [← HN.it]
  obtain ⟨w2, c2, run2, r2⟩ := MK.it w1
  have S2 : Aside (TakeAt own w i j o p rs tot 0 (.slice (some ⟨w1.heap.size, 0, none⟩) 0 c2) (give own w1.heap.size o) w2) := by
    have s1 : Sn (fun k => k = i ∨ k = j) own w own w1 := Sn.same k1.it
    refine ⟨⟨by rw [List.take_zero]; exact r2.it.1, fun b hb => ?_, ?_, s1.trans (Sn.quiet r2.it.2 o)⟩⟩
    · simp only [Value.ownBlock, Option.some.injEq] at hb
      subst hb
      exact k1.it.size
    · rw [leftN_zero rs H.it.ne]
      exact (H.it.quiet k1.it).sn (I := fun _ => False) (Sn.quiet r2.it.2 o) (fun x => x) (fun x => x)
  clear MK r2
  go_wp2_with (refine wpList_make0 rfl (.tmp 12) 35 rfl N rfl w2 _ run2.it ?_)
  go_loopw [5] (fun x wr => ∃ (t : Nat) (q : Option Addr) (c : Nat) (own' : Nat → Nat), x = .slice q t c ∧ t ≤ N ∧ Aside (TakeAt own w i j o p rs tot t (.slice q t c) own' wr)) (fun x _ => N - lenS x)
  case atStart => exact ⟨0, _, _, _, rfl, Nat.zero_le _, S2⟩
  case round =>
    obtain ⟨t, q, c, own1, rfl, ht, X⟩ := hrel
    clear S2 run2
    rcases Nat.eq_or_lt_of_le ht with rfl | hlt
    · go_wp2
      go_ret
      exact ⟨_, own1, rfl, X⟩
    · obtain ⟨r, rs', hrs⟩ : ∃ r rs', Aside (leftN rs t = r :: rs') := by
        cases hl : leftN rs t with
        | nil =>
          have h1 := leftN_flatten rs t
          rw [hl] at h1
          have h2 := congrArg List.length h1
          simp only [List.flatten_nil, List.length_nil, List.length_drop] at h2
          have := hT.it
          omega
        | cons r l => exact ⟨r, l, ⟨rfl⟩⟩
      obtain ⟨m, hm⟩ : ∃ m : Nat, m = N - t := ⟨_, rfl⟩
      have hb := X.it.buf
      rw [hrs.it] at hb
      have TO := Aside.mk (takeOf hij hb m (by omega) (by have h1 := hb.len_le; have h2 := HT.it; simp only [List.length_cons] at h1; omega))
      have i1 : (N : Int) - t = m := by omega
      have i2 : (t : Int) < N := by omega
      have HM : Aside (m = N - t) := ⟨hm⟩
      have HLT := Aside.mk hlt
      clear hm ht hb hlt
      go_wp2_with (first
        | (go_at_call 19; refine TO.it.mono ?_; rintro e w3 ⟨x3, own3, k, rfl, hk, X3⟩; have HK := Aside.mk hk; clear hk; have R3 := Aside.mk (X.it.row.sn X3.it.2.2 (fun e => e.elim hoi hoj)))
        | (at_builtin; refine wpList_appendO rfl (.tmp 18) (.tmp 24) rfl (.slice q t c) x3 (rs.flatten.take t) ((leftN rs t).flatten.take k) R3.it.1 (by rw [hrs.it]; exact X3.it.1.1) (by have h1 := hT.it; have h2 := HT.it; have h3 := H.it.flat_le; rw [leftN_flatten]; simp only [List.length_take, List.length_drop]; omega) rfl rfl ?_; intro q4 l4 c4 w4 o4 k4 b4)
        | fail)
      go_roundw
      case rel =>
        have h4 := TakeAt.more hoi hoj X.it (by rw [hrs.it]; exact X3.it.2.1) X3.it.2.2 o4.it k4.it b4.it
        obtain ⟨q5, c5, h5⟩ := h4.row.shape
        injection h5 with e5 e6 e7
        have hlen : (List.take (t + k) rs.flatten).length = t + k := by
          have h1 := hT.it
          have h2 := HK.it
          have h3 := HM.it
          have h4 := HLT.it
          rw [List.length_take]
          omega
        rw [hlen] at e6
        subst e6
        refine ⟨t + k, q4, c4, _, rfl, ?_, ⟨h4⟩⟩
        have h2 := HK.it
        have h3 := HM.it
        have h4 := HLT.it
        omega
      case measure =>
        have h1 : l4 = ((rs.flatten.take t) ++ (leftN rs t).flatten.take k).length := by
          obtain ⟨q5, c5, h5⟩ := owns_val o4.it
          injection h5
        have h2 := HK.it
        have h3 := HM.it
        have h4 := HLT.it
        have h5 := hT.it
        rw [take_leftN, List.length_take] at h1
        show N - l4 < N - t
        omega
theorem takeB {o : Nat} (hij : i ≠ j) (hoi : o ≠ i) (hoj : o ≠ j) (h : BufO own i j w p rs tot) (htot : tot ≤ 4398046511103) (n : Int) :
    Calls Tryd.prog 8 #[ptr p, .int .i64 n] w fun e w' => ∃ x own', e = .returned x ∧ Aside (TakeAt own w i j o p rs tot n.toNat x own' w') := by
  by_cases hn : n ≤ 0 ∨ rs = []
  · refine (take_none h n hn).mono ?_
    rintro e w' ⟨rfl, k⟩
    have h0 : rs.flatten.take n.toNat = [] := by
      rcases hn with hn | rfl
      · rw [show n.toNat = 0 by omega]; rfl
      · simp
    refine ⟨_, own, rfl, ⟨⟨?_, fun b hb => by simp [Value.ownBlock] at hb⟩, fun b hb => by simp [Value.ownBlock] at hb, ?_, Sn.same k.it⟩⟩
    · rw [h0]; exact World.ownsRow_nil _ _ _ _
    · rcases hn with hn | rfl
      · rw [show n.toNat = 0 by omega, leftN_zero rs h.ne]; exact h.quiet k.it
      · exact h.quiet k.it
  · have hn' : 0 < n ∧ rs ≠ [] := ⟨by omega, fun e => hn (.inr e)⟩
    by_cases hlt : (rs.flatten.length : Int) < n
    · refine (take_some hij hoi hoj h htot n hn'.1 hn'.2 rs.flatten.length (by rw [if_pos hlt])).mono ?_
      rintro e w' ⟨x, own', rfl, X⟩
      obtain ⟨a, b, c, d⟩ := X.it
      refine ⟨x, own', rfl, ⟨?_, b, ?_, d⟩⟩
      · rw [List.take_of_length_le (by omega)]
        rw [List.take_of_length_le (Nat.le_refl _)] at a
        exact a
      · rw [leftN_all rs _ (by omega)]
        rw [leftN_all rs _ (Nat.le_refl _)] at c
        exact c
    · exact take_some hij hoi hoj h htot n hn'.1 hn'.2 n.toNat (by rw [if_neg hlt]; omega)
end
end Go.Proofs.YtfphoaphdfhhiaaDoor
