/-
  the document's table (culvertref15): its rows as they are read; New, Get, IDs, Above
-/
import Derived.Test.YtcdgmbaimbmdmaaDoorLwA
import Derived.Maps.AppendAt
import Derived.OwnWalk
import Derived.Deep.DeepCutAuto
namespace Go.Proofs.YtcdgmbaimbmdmaaDoor
open Go.RowKit Tbint

variable {w w' W : World} {own own' : Nat → Nat} {v : Value} {L : Tl Int} {I : Nat → Prop}

/-- the document's rows: owner 9's, whom no call changes -/
def RdD (own : Nat → Nat) (w : World) (v : Value) (L : Tl Int) : Prop :=
  ∃ a c, v = .slice a L.length c ∧ L.length ≤ c ∧ ∀ j x, L[j]? = some x → ∃ g, a = some ⟨g, 0, none⟩ ∧ own g = 9 ∧ w.cell? ⟨g, j * 2, none⟩ = some (.int .u32 (x.1 : Nat)) ∧ w.cell? ⟨g, j * 2 + 1, none⟩ = some (.int .i64 x.2)
theorem RdD.sn (h : RdD own w v L) (s : Sn I own w own' w') (hi : ¬ I 9) : RdD own' w' v L := by
  obtain ⟨a, c, e, hl, hc⟩ := h
  refine ⟨a, c, e, hl, fun j x hj => ?_⟩
  obtain ⟨g, ea, ho, c0, c1⟩ := hc j x hj
  have hg := World.block_lt_of_cell? w _ c0
  have hb := s.keeps.block g hg (fun e => hi (by rw [← ho]; exact e))
  exact ⟨g, ea, (s.agree g hg).trans ho, by rw [World.cell?_of_block (w := w) hb]; exact c0, by rw [World.cell?_of_block (w := w) hb]; exact c1⟩
theorem RdD.quiet (h : RdD own w v L) (hk : Keeps Nowhere w w') : RdD own w' v L := h.sn (I := fun _ => False) (Sn.same hk) (fun x => x)
theorem RdD.step (h : RdD own w v L) (hk : Keeps Nowhere w w') (r : Nat) : RdD (give own w.heap.size r) w' v L := h.sn (I := fun _ => False) (Sn.quiet hk r) (fun x => x)
theorem RdD.nil (own : Nat → Nat) (w : World) : RdD own w (.slice none 0 0) [] := ⟨none, 0, rfl, Nat.le_refl _, fun j x h => by simp at h⟩
def flr (x : Nat × Int) : List Value := [.int .u32 (x.1 : Nat), .int .i64 x.2]
def flat15 (L : Tl Int) : List Value := L.flatMap flr
theorem flat15_snoc (L : Tl Int) (x : Nat × Int) : flat15 (L ++ [x]) = flat15 L ++ flr x := by simp [flat15, List.flatMap_append]
theorem flat15_len (L : Tl Int) : (flat15 L).length = L.length * 2 := by
  induction L with
  | nil => rfl
  | cons x L ih => simp only [flat15, List.flatMap_cons, List.length_append] at ih ⊢; rw [ih]; simp [flr]; omega
theorem flat15_at (L : Tl Int) : ∀ (j : Nat) (x : Nat × Int), L[j]? = some x → (flat15 L)[j * 2]? = some (.int .u32 (x.1 : Nat)) ∧ (flat15 L)[j * 2 + 1]? = some (.int .i64 x.2) := by
  induction L with
  | nil => intro j x h; simp at h
  | cons y L ih =>
    intro j x h
    have e : flat15 (y :: L) = flr y ++ flat15 L := rfl
    rw [e]
    cases j with
    | zero =>
      simp only [List.getElem?_cons_zero, Option.some.injEq] at h
      subst h
      exact ⟨rfl, rfl⟩
    | succ j =>
      simp only [List.getElem?_cons_succ] at h
      obtain ⟨h0, h1⟩ := ih j x h
      constructor
      · rw [List.getElem?_append_right (by simp [flr]; omega)]
        have : (j + 1) * 2 - (flr y).length = j * 2 := by simp [flr]; omega
        rw [this]; exact h0
      · rw [List.getElem?_append_right (by simp [flr]; omega)]
        have : (j + 1) * 2 + 1 - (flr y).length = j * 2 + 1 := by simp [flr]; omega
        rw [this]; exact h1
/-- rows that the document has just made -/
theorem owns_rdD {base : Nat} {n : Nat} (h : w'.ownsRow base 43 2 v n (flat15 L)) (hn : n = L.length) (hb : w.heap.size ≤ base) : RdD (give own w.heap.size 9) w' v L := by
  subst hn
  rcases h.2 with ⟨rfl, h0⟩ | ⟨g, cap, cur, rfl, hg, hc, hn, hm, hs, ht⟩
  · obtain rfl : L = [] := List.eq_nil_of_length_eq_zero h0
    exact RdD.nil _ _
  · refine ⟨_, cap, rfl, hn, fun j x hj => ⟨g, rfl, give_new (by omega), ?_, ?_⟩⟩
    · have := h.cells rfl (j * 2) _ (flat15_at L j x hj).1
      rwa [add_none, Nat.zero_add] at this
    · have := h.cells rfl (j * 2 + 1) _ (flat15_at L j x hj).2
      rwa [add_none, Nat.zero_add] at this
theorem cells_two (w : World) (x y : Value) (t : TypeId) : ∀ j u, [x, y][j]? = some u → (w.alloc (.cells #[x, y] t)).cell? ((⟨w.heap.size, 0, none⟩ : Addr).add j) = some u := by
  intro j u hj
  rw [add_none, Nat.zero_add]
  have := (Cells.new w t [x, y]).cell j
  rw [this]
  exact hj
theorem rinfo : (Tryd.prog.info? 43).map (fun i => (i.zero, i.size, i.bytes)) = some (some (.agg #[.int .u32 0, .int .i64 0]), 2, 16) := by kernel_rfl

theorem dnew (a0 : Int) (w : World) : Calls Tryd.prog 6 #[.int .i64 a0] w fun e w' => e = .returned (.tuple #[.agg #[.int .i64 (if a0 < 0 then 0 else a0), .slice none 0 0], .int .i64 (if a0 < 0 then 2 else 0)]) ∧ Aside (Keeps Nowhere w w') := by
  by_cases h : a0 < 0
  · rw [if_pos h, if_pos h]
    go_enter Tryd.func6, Tryd.ntmps6
    go_wp2
    go_returns
    exact ⟨rfl, ⟨(((Keeps.refl _ _).alloc _))⟩⟩
  · rw [if_neg h, if_neg h]
    go_enter Tryd.func6, Tryd.ntmps6
    go_wp2
    go_returns
    exact ⟨rfl, ⟨(((Keeps.refl _ _).alloc _))⟩⟩

set_option maxHeartbeats 1000000 in
theorem dget (room : Int) (k : Nat) (h : RdD own w v L) (hl : L.length ≤ 4294967296) :
    Calls Tryd.prog 16 #[.agg #[.int .i64 room, v], .int .u32 k] w fun e w' => e = .returned (.tuple #[.int .i64 ((tlook L k).getD 0), .bool (tlook L k).isSome]) ∧ Aside (Keeps Nowhere w w') := by
  obtain ⟨a, c, rfl, hlc, hc⟩ := h
  obtain ⟨n, hn⟩ : ∃ n, L.length = n := ⟨_, rfl⟩
  have HN := Aside.mk hn
  rw [hn] at hlc hl ⊢
  have K1 := Aside.mk ((Keeps.refl Nowhere w).alloc (.cells #[.int .i64 room, .slice a n c] 31))
  have c1 : (w.alloc (.cells #[.int .i64 room, .slice a n c] 31)).cell? ⟨w.heap.size, 1, none⟩ = some (.slice a n c) := by rw [(Cells.new w _ _).cell]; rfl
  have HC := Aside.mk hc
  obtain ⟨bx, hbx⟩ : ∃ bx, w.heap.size = bx := ⟨_, rfl⟩
  obtain ⟨W1, hW1⟩ : ∃ W1, (w.alloc (.cells #[.int .i64 room, .slice a n c] 31)) = W1 := ⟨_, rfl⟩
  rw [hW1] at K1 c1
  rw [hbx] at c1
  clear hc hn
  go_enter Tryd.func16, Tryd.ntmps16
  go_upto_region 2 with fail
  clear hW1 hbx
  go_loopw [6] (fun v wr => ∃ j : Nat, v = .int .i64 j ∧ j ≤ n ∧ wr = W1 ∧ tlook (L.drop j) k = tlook L k) (fun v _ => n - natOf v)
  case atStart => exact ⟨0, rfl, Nat.zero_le _, rfl, rfl⟩
  case round =>
    obtain ⟨j, rfl, hj, rfl, ht⟩ := hrel
    rcases Nat.eq_or_lt_of_le hj with rfl | hlt
    · rw [List.drop_eq_nil_of_le (by rw [HN.it]; exact Nat.le_refl _)] at ht
      have HT := Aside.mk (show tlook L k = none by rw [← ht]; simp [tlook])
      clear ht
      go_wp2_with fail
      go_returns
      rw [HT.it]
      exact ⟨rfl, K1⟩
    · obtain ⟨x, hx⟩ : ∃ x, L[j]? = some x := ⟨_, List.getElem?_eq_getElem (by rw [HN.it]; exact hlt)⟩
      obtain ⟨g, rfl, _, y0, y1⟩ := HC.it j x hx
      have z0 : wr.cell? ⟨g, j * 2, none⟩ = some (.int .u32 (x.1 : Nat)) := by rw [World.cell?_of_block (w := w) (K1.it.block g (World.block_lt_of_cell? w _ y0) (fun x => x))]; exact y0
      have z1 : wr.cell? ⟨g, j * 2 + 1, none⟩ = some (.int .i64 x.2) := by rw [World.cell?_of_block (w := w) (K1.it.block g (World.block_lt_of_cell? w _ y0) (fun x => x))]; exact y1
      have hd : L.drop j = x :: L.drop (j + 1) := by
        have hjl : j < L.length := by rw [HN.it]; exact hlt
        rw [List.drop_eq_getElem_cons hjl]
        rw [List.getElem?_eq_getElem hjl] at hx
        simp only [Option.some.injEq] at hx
        rw [hx]
      rw [hd, tlook] at ht
      by_cases hk : x.1 = k
      · rw [if_pos hk] at ht
        have HT := Aside.mk ht
        have hkk : ((x.1 : Int) == k) = true := by simp [hk]
        clear ht hd hx y0 y1 hk
        go_wp2_with fail
        go_returns
        rw [← HT.it]
        exact ⟨rfl, K1⟩
      · rw [if_neg hk] at ht
        have hkk : ((x.1 : Int) == k) = false := by simp; omega
        have HT := Aside.mk ht
        clear ht hd hx y0 y1 hk
        go_wp2_with fail
        go_roundw
        case rel => exact ⟨j + 1, by go_num, by omega, by trivial, HT.it⟩
        case measure => simp [natOf]; omega
end Go.Proofs.YtcdgmbaimbmdmaaDoor
