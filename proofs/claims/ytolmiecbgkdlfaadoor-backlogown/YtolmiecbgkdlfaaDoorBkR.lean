/-
  the document's backlog (culvertref16): New, At, Put
-/
import Derived.Test.YtolmiecbgkdlfaaDoorBkE
import Derived.Test.YtolmiecbgkdlfaaDoorBkF
import Derived.Deep.DeepCutAuto
import Derived.Laws.ResultCell
import Derived.Handy
namespace Go.Proofs.YtolmiecbgkdlfaaDoor
open Go.RowKit

variable {w w' W : World} {own own' : Nat → Nat} {v : Value} {L : List Nat} {I : Nat → Prop}

/-- the document's numbers: owner 9's, whom no call changes -/
structure RdN (own : Nat → Nat) (w : World) (v : Value) (L : List Nat) : Prop where
  r : ReadsK 1 w v L.length (L.map e32)
  o : ∀ b, v.ownBlock = some b → own b = 9 ∧ b < w.heap.size
theorem RdN.sn (h : RdN own w v L) (s : Sn I own w own' w') (hi : ¬ I 9) : RdN own' w' v L :=
  ⟨h.r.later s.keeps (fun b hb e => hi (by rw [← (h.o b hb).1]; exact e)), fun b hb => ⟨(s.agree b (h.o b hb).2).trans (h.o b hb).1, Nat.lt_of_lt_of_le (h.o b hb).2 s.keeps.size⟩⟩
theorem RdN.quiet (h : RdN own w v L) (hk : Keeps Nowhere w w') : RdN own w' v L := h.sn (I := fun _ => False) (Sn.same hk) (fun x => x)
theorem RdN.step (h : RdN own w v L) (hk : Keeps Nowhere w w') (r : Nat) : RdN (give own w.heap.size r) w' v L := h.sn (I := fun _ => False) (Sn.quiet hk r) (fun x => x)
theorem RdN.nil (own : Nat → Nat) (w : World) : RdN own w (.slice none 0 0) [] := ⟨⟨rfl, none, 0, rfl, Nat.le_refl _, Nat.zero_le _, fun _ => rfl, fun j u hj => by simp at hj⟩, fun b hb => by cases hb⟩
theorem RdN.shape (h : RdN own w v L) : ∃ a c, v = .slice a L.length c ∧ L.length ≤ c ∧ c ≤ maxLen := by
  obtain ⟨_, a, c, e, h1, h2, _⟩ := h.r
  exact ⟨a, c, e, h1, h2⟩
theorem RdN.at (h : RdN own w v L) : ∃ a c, v = .slice a L.length c ∧ L.length ≤ c ∧ ∀ j x, L[j]? = some x → ∃ g o, a = some ⟨g, o, none⟩ ∧ w.cell? ⟨g, o + j, none⟩ = some (.int .u32 (x : Nat)) := by
  obtain ⟨_, a, c, e, h1, h2, _, hc⟩ := h.r
  refine ⟨a, c, e, h1, fun j x hj => hc j _ (by rw [List.getElem?_map, hj]; rfl)⟩
/-- a row that the document has just made -/
theorem owns_rdN {base n : Nat} (h : w'.ownsRow base 34 1 v n (L.map e32)) (hn : n = L.length) (hb : w.heap.size ≤ base) : RdN (give own w.heap.size 9) w' v L := by
  subst hn
  exact ⟨owns_readsK h, fun b hb' => ⟨give_new (Nat.le_trans hb (owns_base h b hb')), owns_lt h b hb'⟩⟩
theorem one32 (L : List Nat) : ∀ u ∈ L.map e32, u.oneCell' = true := by
  intro u hu
  obtain ⟨x, _, rfl⟩ := List.mem_map.1 hu
  rfl

theorem dnew_no (n : Int) (w : World) (h : n < 1 ∨ 1024 < n) : Calls Tryd.prog 8 #[.int .i64 n] w fun e w' => e = .returned (.tuple #[.agg #[.int .i64 0, .slice none 0 0], .int .i64 2]) ∧ Aside (Keeps Nowhere w w') := by
  rcases Int.lt_or_le n 1 with h1 | h1
  · clear h
    go_enter Tryd.func8, Tryd.ntmps8
    go_wp2
    go_returns
    exact ⟨rfl, ⟨(Keeps.refl _ _).alloc _⟩⟩
  · have h2 : 1024 < n := by omega
    clear h
    go_enter Tryd.func8, Tryd.ntmps8
    go_wp2
    go_returns
    exact ⟨rfl, ⟨(Keeps.refl _ _).alloc _⟩⟩
theorem dnew_ok (n : Int) (w : World) (h1 : 1 ≤ n) (h2 : n ≤ 1024) : Calls Tryd.prog 8 #[.int .i64 n] w fun e w' => e = .returned (.tuple #[.agg #[.int .i64 n, .slice none 0 0], .int .i64 0]) ∧ Aside (Keeps Nowhere w w') := by
  have h1' : ¬ n < 1 := by omega
  have h2' : ¬ 1024 < n := by omega
  clear h1 h2
  go_enter Tryd.func8, Tryd.ntmps8
  go_wp2
  go_returns
  exact ⟨rfl, ⟨(Keeps.refl _ _).alloc _⟩⟩

def natOf : Value → Nat
  | .int _ q => q.toNat
  | _ => 0
/-- the place of a number, or -1 -/
def atI (L : List Nat) (id : Nat) : Int := if id ∈ L then (L.idxOf id : Nat) else -1
theorem idx_first {L : List Nat} {id j : Nat} (h : L[j]? = some id) (hn : id ∉ L.take j) : L.idxOf id = j := by
  induction L generalizing j with
  | nil => simp at h
  | cons x L ih =>
    cases j with
    | zero =>
      simp only [List.getElem?_cons_zero, Option.some.injEq] at h
      subst h
      simp
    | succ j =>
      simp only [List.getElem?_cons_succ] at h
      simp only [List.take_succ_cons, List.mem_cons, not_or] at hn
      rw [List.idxOf_cons, show (x == id) = false from beq_eq_false_iff_ne.2 (fun e => hn.1 e.symm), cond_false, ih h hn.2]
set_option maxHeartbeats 1000000 in
theorem dat (most : Int) (id : Nat) (h : RdN own w v L) (hl : L.length ≤ 1024) :
    Calls Tryd.prog 27 #[.agg #[.int .i64 most, v], .int .u32 (id : Nat)] w fun e w' => e = .returned (.int .i64 (atI L id)) ∧ Aside (Keeps Nowhere w w') := by
  obtain ⟨a, c, rfl, hlc, hc⟩ := h.at
  clear h
  obtain ⟨n, hn⟩ : ∃ n, L.length = n := ⟨_, rfl⟩
  have HN := Aside.mk hn
  rw [hn] at hlc hl ⊢
  have K1 := Aside.mk ((Keeps.refl Nowhere w).alloc (.cells #[.int .i64 most, .slice a n c] 31))
  have c1 : (w.alloc (.cells #[.int .i64 most, .slice a n c] 31)).cell? ⟨w.heap.size, 1, none⟩ = some (.slice a n c) := by rw [(Cells.new w _ _).cell]; rfl
  have HC := Aside.mk hc
  obtain ⟨bx, hbx⟩ : ∃ bx, w.heap.size = bx := ⟨_, rfl⟩
  obtain ⟨W1, hW1⟩ : ∃ W1, (w.alloc (.cells #[.int .i64 most, .slice a n c] 31)) = W1 := ⟨_, rfl⟩
  rw [hW1] at K1 c1
  rw [hbx] at c1
  clear hc hn
  go_enter Tryd.func27, Tryd.ntmps27
  go_upto_region 2 with fail
  clear hW1 hbx
  go_loopw [5] (fun v wr => ∃ j : Nat, v = .int .i64 j ∧ j ≤ n ∧ wr = W1 ∧ Aside (id ∉ L.take j)) (fun v _ => n - natOf v)
  case atStart => exact ⟨0, rfl, Nat.zero_le _, rfl, ⟨by simp⟩⟩
  case round =>
    obtain ⟨j, rfl, hj, rfl, ht⟩ := hrel
    rcases Nat.eq_or_lt_of_le hj with rfl | hlt
    · have HT := Aside.mk (show id ∉ L by have := ht.it; rwa [List.take_of_length_le (by rw [HN.it]; exact Nat.le_refl _)] at this)
      clear ht
      go_wp2_with fail
      go_ret
      unfold atI
      rw [if_neg HT.it]
      exact ⟨rfl, K1⟩
    · obtain ⟨x, hx⟩ : ∃ x, L[j]? = some x := ⟨_, List.getElem?_eq_getElem (by rw [HN.it]; exact hlt)⟩
      obtain ⟨g, o, rfl, y0⟩ := HC.it j x hx
      have z0 : wr.cell? ⟨g, o + j, none⟩ = some (.int .u32 (x : Nat)) := by rw [World.cell?_of_block (w := w) (K1.it.block g (World.block_lt_of_cell? w _ y0) (fun x => x))]; exact y0
      have HX := Aside.mk hx
      clear y0 hx
      by_cases hk : x = id
      · have hkk : ((x : Int) == id) = true := by simp [hk]
        have HX2 := Aside.mk (show L.idxOf id = j ∧ id ∈ L from ⟨idx_first (hk ▸ HX.it) ht.it, hk ▸ List.mem_of_getElem? HX.it⟩)
        clear hk
        go_wp2_with fail
        go_ret
        unfold atI
        rw [if_pos HX2.it.2, HX2.it.1]
        exact ⟨rfl, K1⟩
      · have hkk : ((x : Int) == id) = false := by simp; omega
        have HT : Aside (id ∉ L.take (j + 1)) := ⟨by
          rw [List.take_add_one, HX.it]
          simp only [Option.toList_some, List.mem_append, List.mem_singleton, not_or]
          exact ⟨ht.it, fun e => hk e.symm⟩⟩
        clear hk ht
        go_wp2_with fail
        go_roundw
        case rel => exact ⟨j + 1, by go_num, by omega, by trivial, HT⟩
        case measure => simp [natOf]; omega
end Go.Proofs.YtolmiecbgkdlfaaDoor
