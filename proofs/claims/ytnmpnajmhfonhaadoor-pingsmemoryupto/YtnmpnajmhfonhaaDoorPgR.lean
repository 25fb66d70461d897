/-
  the document's pings (culvertref17)
-/
import Derived.Test.YtnmpnajmhfonhaaDoorPgD
import Derived.Deep.DeepCutAuto
import Derived.Laws.ResultCell
import Derived.Handy
namespace Go.Proofs.YtnmpnajmhfonhaaDoor
open Go.RowKit
attribute [-go_sem] Builtin.append_

variable {w w' W : World} {own own' : Nat → Nat} {v vw va vo : Value} {L : List Nat} {I : Nat → Prop} {m : Pm}

/-- the document's numbers: owner 9's, whom no call changes -/
structure RdN (own : Nat → Nat) (w : World) (v : Value) (L : List Nat) : Prop where
  r : ReadsK 1 w v L.length (L.map e32)
  o : ∀ b, v.ownBlock = some b → own b = 9 ∧ b < w.heap.size
theorem RdN.sn (h : RdN own w v L) (s : Sn I own w own' w') (hi : ¬ I 9) : RdN own' w' v L :=
  ⟨h.r.later s.keeps (fun b hb e => hi (by rw [← (h.o b hb).1]; exact e)), fun b hb => ⟨(s.agree b (h.o b hb).2).trans (h.o b hb).1, Nat.lt_of_lt_of_le (h.o b hb).2 s.keeps.size⟩⟩
theorem RdN.quiet (h : RdN own w v L) (hk : Keeps Nowhere w w') : RdN own w' v L := h.sn (I := fun _ => False) (Sn.same hk) (fun x => x)
theorem RdN.step (h : RdN own w v L) (hk : Keeps Nowhere w w') (r : Nat) : RdN (give own w.heap.size r) w' v L := h.sn (I := fun _ => False) (Sn.quiet hk r) (fun x => x)
theorem RdN.nil (own : Nat → Nat) (w : World) : RdN own w (.slice none 0 0) [] := ⟨⟨rfl, none, 0, rfl, Nat.le_refl _, Nat.zero_le _, fun _ => rfl, fun j u hj => by simp at hj⟩, fun b hb => by cases hb⟩
theorem RdN.shape (h : RdN own w v L) : ∃ a c, v = .slice a L.length c ∧ L.length ≤ c ∧ c ≤ maxLen := by
  obtain ⟨_, a, c, e, h1, h2, _⟩ := h.r
  exact ⟨a, c, e, h1, h2⟩
theorem RdN.at (h : RdN own w v L) : ∃ a c, v = .slice a L.length c ∧ L.length ≤ c ∧ ∀ j x, L[j]? = some x → ∃ g o, a = some ⟨g, o, none⟩ ∧ w.cell? ⟨g, o + j, none⟩ = some (.int .u32 (x : Nat)) := by
  obtain ⟨_, a, c, e, h1, h2, _, hc⟩ := h.r
  refine ⟨a, c, e, h1, fun j x hj => hc j _ (by rw [List.getElem?_map, hj]; rfl)⟩
/-- a row that the document has just made -/
theorem owns_rdN {base : Nat} (h : w'.ownsRow base 37 1 v L.length (L.map e32)) (hb : w.heap.size ≤ base) : RdN (give own w.heap.size 9) w' v L :=
  ⟨owns_readsK h, fun b hb' => ⟨give_new (Nat.le_trans hb (owns_base h b hb')), owns_lt h b hb'⟩⟩

/-- the document's Pings: its three lists -/
structure Dm (own : Nat → Nat) (w : World) (vw va vo : Value) (m : Pm) : Prop where
  wt : RdN own w vw (ks m.L)
  a : RdN own w va m.an
  o : RdN own w vo m.ow
theorem Dm.sn (h : Dm own w vw va vo m) (s : Sn I own w own' w') (hi : ¬ I 9) : Dm own' w' vw va vo m := ⟨h.wt.sn s hi, h.a.sn s hi, h.o.sn s hi⟩
theorem Dm.quiet (h : Dm own w vw va vo m) (hk : Keeps Nowhere w w') : Dm own w' vw va vo m := ⟨h.wt.quiet hk, h.a.quiet hk, h.o.quiet hk⟩
theorem Dm.step (h : Dm own w vw va vo m) (hk : Keeps Nowhere w w') (r : Nat) : Dm (give own w.heap.size r) w' vw va vo m := ⟨h.wt.step hk r, h.a.step hk r, h.o.step hk r⟩
theorem Dm.zero (own : Nat → Nat) (w : World) {m : Pm} (h1 : m.L = []) (h2 : m.an = []) (h3 : m.ow = []) : Dm own w (.slice none 0 0) (.slice none 0 0) (.slice none 0 0) m := ⟨by rw [h1]; exact RdN.nil _ _, by rw [h2]; exact RdN.nil _ _, by rw [h3]; exact RdN.nil _ _⟩

theorem dnew_no (n : Int) (w : World) (h : n < 1 ∨ 1024 < n) : Calls Tryd.prog 13 #[.int .i64 n] w fun e w' => e = .returned (.tuple #[.agg #[.int .i64 0, .int .i64 0, .slice none 0 0, .slice none 0 0, .slice none 0 0], .int .i64 2]) ∧ Aside (Keeps Nowhere w w') := by
  rcases Int.lt_or_le n 1 with h1 | h1
  · clear h
    go_enter Tryd.func13, Tryd.ntmps13
    go_wp2
    go_returns
    exact ⟨rfl, ⟨(Keeps.refl _ _).alloc _⟩⟩
  · have h2 : 1024 < n := by omega
    clear h
    go_enter Tryd.func13, Tryd.ntmps13
    go_wp2
    go_returns
    exact ⟨rfl, ⟨(Keeps.refl _ _).alloc _⟩⟩
theorem dnew_ok (n : Int) (w : World) (h1 : 1 ≤ n) (h2 : n ≤ 1024) : Calls Tryd.prog 13 #[.int .i64 n] w fun e w' => e = .returned (.tuple #[.agg #[.int .i64 n, .int .i64 0, .slice none 0 0, .slice none 0 0, .slice none 0 0], .int .i64 0]) ∧ Aside (Keeps Nowhere w w') := by
  have h1' : ¬ n < 1 := by omega
  have h2' : ¬ 1024 < n := by omega
  clear h1 h2
  go_enter Tryd.func13, Tryd.ntmps13
  go_wp2
  go_returns
  exact ⟨rfl, ⟨(Keeps.refl _ _).alloc _⟩⟩

/-- a new list with one more -/
theorem dbehind (h : ReadsK 1 w v L.length (L.map e32)) (x : Nat) (hl : (L.length + 1) * 4 ≤ 140737488355328) : Calls Tryd.prog 40 #[v, .int .u32 (x : Nat)] w fun e w' => ∃ a l c, e = .returned (.slice a l c) ∧ Aside (w'.ownsRow w.heap.size 37 1 (.slice a l c) (L ++ [x]).length ((L ++ [x]).map e32)) ∧ Aside (Keeps Nowhere w w') := by
  have K1 : Keeps Nowhere w (w.alloc (.cells #[] 37)) := (Keeps.refl _ _).alloc _
  obtain ⟨a1, l1, c1, w1, run1, o1, k1, _⟩ := app32 (ns := []) (ms := L) (w.alloc (.cells #[] 37)) w.heap.size (owns_empty w 37) (h.later K1 (fun _ _ x => x)) (by simp; omega) (by simp)
  rw [List.nil_append] at o1
  have K2 : Keeps Nowhere w w1 := K1.next k1 (fun k e hlt => by have := owns_base (owns_empty w 37) k e; omega)
  have K3 : Keeps Nowhere w1 (w1.alloc (.cells #[e32 x] 37)) := (Keeps.refl _ _).alloc _
  obtain ⟨a2, l2, c2, w2, run2, o2, k2, _⟩ := app32 (ns := L) (ms := [x]) (w1.alloc (.cells #[e32 x] 37)) w.heap.size (owns_later o1 K3 (fun _ _ x => x)) (reads_new1 w1 x) hl (Nat.le_trans K2.size K3.size)
  have K4 : Aside (Keeps Nowhere w w2) := ⟨(K2.trans K3).next k2 (fun k e hlt => by have := owns_base o1 k e; omega)⟩
  have O2 := Aside.mk o2
  obtain ⟨a0, l0, c0, hv⟩ := h.2
  obtain ⟨rfl, _⟩ := show v = .slice a0 L.length l0 ∧ True from ⟨c0, trivial⟩
  clear h K1 o1 k1 K2 K3 o2 k2 hl
  go_enter Tryd.func40, Tryd.ntmps40
  go_wp2_with fail
  go_ret
  exact ⟨a2, l2, c2, rfl, O2, K4⟩
theorem readsK_drop {k l c : Nat} {a : Option Addr} (h : ReadsK 1 w (.slice a l c) l (L.map e32)) (hk : k ≤ l) : ReadsK 1 w (.slice (if c = k then a else a.map (fun x => x.add k)) (l - k) (c - k)) (l - k) ((L.drop k).map e32) := by
  obtain ⟨hl, a', c', e, h1, h2, h3, hc⟩ := h
  injection e with e1 _ e3
  subst e1 e3
  have hll : L.length = l := by rw [List.length_map] at hl; omega
  refine ⟨by rw [List.length_map, List.length_drop]; omega, _, _, rfl, by omega, by omega, fun hz => ?_, fun j u hj => ?_⟩
  · split at hz
    · omega
    · have := h3 (Option.map_eq_none_iff.1 hz); omega
  · rw [List.map_drop, List.getElem?_drop] at hj
    obtain ⟨g, o, rfl, hce⟩ := hc (k + j) u hj
    have hlt : k + j < l := by
      have := (List.getElem?_eq_some_iff.1 hj).1
      rw [List.length_map] at this
      omega
    refine ⟨g, o + k, ?_, by rw [Nat.add_assoc]; exact hce⟩
    rw [if_neg (by omega), Option.map_some, add_none]
theorem readsK_take {k l c : Nat} {a : Option Addr} (h : ReadsK 1 w (.slice a l c) l (L.map e32)) (hk : k ≤ l) : ReadsK 1 w (.slice a k c) k ((L.take k).map e32) := by
  obtain ⟨hl, a', c', e, h1, h2, h3, hc⟩ := h
  injection e with e1 _ e3
  subst e1 e3
  refine ⟨by rw [List.length_map, List.length_take]; rw [List.length_map] at hl; omega, _, _, rfl, by omega, h2, h3, fun j u hj => hc j u ?_⟩
  rw [List.map_take, List.getElem?_take] at hj
  split at hj
  · exact hj
  · cases hj
end Go.Proofs.YtnmpnajmhfonhaaDoor
