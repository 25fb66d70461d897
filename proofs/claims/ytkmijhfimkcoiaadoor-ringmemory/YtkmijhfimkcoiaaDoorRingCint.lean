/-
  package ring at int: a ring of these things; grow, shrink, Peek, Drop
-/
import Derived.Test.YtkmijhfimkcoiaaDoorRingBint
namespace Go.Proofs.YtkmijhfimkcoiaaDoor.Rint
open Go.RowKit

structure RingIn (w : World) (p cap : Nat) (items : List Value) (v : Value) (first : Nat) (vals : List Value) : Prop where
  cells : Cells w p 63 (ringCells cap v first items.length)
  row : RowAt w 3 v vals
  apart : v.ownBlock ≠ some p
  fits : vals.length ≤ cap
  most : cap ≤ 2147483647
  room : items.length ≤ vals.length
  start : first < vals.length ∨ vals = [] ∧ first = 0
  one : ∀ x ∈ vals, x.oneCell' = true
  holds : ∀ i, i < items.length → items[i]? = vals[pl first vals.length i]?

theorem RingIn.list {w : World} {p cap : Nat} {items : List Value} {v : Value} {first : Nat} {vals : List Value} (h : RingIn w p cap items v first vals) (m : Nat) (hm : m ≤ items.length) : (vals.drop first ++ vals).take m = items.take m := by
  have hr := h.room
  apply List.ext_getElem?
  intro j
  rw [List.getElem?_take, List.getElem?_take]
  split
  · rename_i hj
    rw [h.holds j (by omega)]
    unfold pl
    rcases h.start with hs | ⟨hs, _⟩
    · by_cases hx : first + j < vals.length
      · rw [if_pos hx, List.getElem?_append_left (by simp; omega), List.getElem?_drop]
      · rw [if_neg hx, List.getElem?_append_right (by simp; omega)]
        congr 1
        simp
        omega
    · rw [hs, List.length_nil] at hr
      omega
  · rfl
theorem RingIn.slice {w : World} {p cap : Nat} {items : List Value} {v : Value} {first : Nat} {vals : List Value} (h : RingIn w p cap items v first vals) : ∃ x, v = .slice x vals.length vals.length := by
  rcases h.row with ⟨rfl, rfl⟩ | ⟨g, rfl, _⟩
  · exact ⟨_, rfl⟩
  · exact ⟨_, rfl⟩
theorem RingIn.later {S : Nat → Prop} {w w' : World} {p cap : Nat} {items : List Value} {v : Value} {first : Nat} {vals : List Value} (h : RingIn w p cap items v first vals) (hk : Keeps S w w') (hp : ¬ S p) (hv : ∀ k, v.ownBlock = some k → ¬ S k) : RingIn w' p cap items v first vals :=
  { h with cells := h.cells.later hk hp, row := h.row.later hk hv }
theorem RingIn.itemsOne {w : World} {p cap : Nat} {items : List Value} {v : Value} {first : Nat} {vals : List Value} (h : RingIn w p cap items v first vals) : ∀ x ∈ items, x.oneCell' = true := by
  intro x hx
  obtain ⟨i, hi⟩ := List.mem_iff_getElem?.1 hx
  have hl : i < items.length := (List.getElem?_eq_some_iff.1 hi).1
  rw [h.holds i hl] at hi
  exact h.one x (List.mem_of_getElem? hi)
/-- a ring in a new room -/
theorem RingIn.moved {w w' : World} {p cap : Nat} {items : List Value} {v : Value} {first : Nat} {vals : List Value} (h : RingIn w p cap items v first vals) (size : Nat) (hs : items.length ≤ size) (hsz : size ≤ cap)
    (hc : Cells w' p 63 (ringCells cap (.slice (some ⟨w.heap.size, 0, none⟩) size size) 0 items.length)) (hr : Cells w' w.heap.size 3 (splice (List.replicate size (.int .i64 0)) 0 ((vals.drop first ++ vals).take items.length))) :
    RingIn w' p cap items (.slice (some ⟨w.heap.size, 0, none⟩) size size) 0 (splice (List.replicate size (.int .i64 0)) 0 items) := by
  rw [h.list _ (Nat.le_refl _), List.take_length] at hr
  have hlen : (splice (List.replicate size (.int .i64 0)) 0 items).length = size := by rw [length_splice _ _ _ (by simpa using hs)]; simp
  refine ⟨hc, .inr ⟨_, by rw [hlen], hr⟩, ?_, by omega, h.most, by omega, ?_, ?_, ?_⟩
  · intro e
    simp only [Value.ownBlock, Option.some.injEq] at e
    have := h.cells.lt
    omega
  · rcases Nat.eq_zero_or_pos size with h0 | h0
    · right
      exact ⟨List.eq_nil_of_length_eq_zero (by omega), rfl⟩
    · left; omega
  · intro x hx
    rcases splice_mem hx with hx | hx
    · rw [List.eq_of_mem_replicate hx]; exact zone
    · exact h.itemsOne x hx
  · intro i hi
    rw [hlen]
    unfold pl
    rw [if_pos (by omega), splice_get _ _ _ (by omega), if_neg (by omega), if_pos (by omega)]
    simp

def growTo1 (things n : Nat) : Nat := if 2 * n ≤ things then things else 2 * n
def growTo (cap things n : Nat) : Nat := if growTo1 things n ≤ cap then growTo1 things n else cap
theorem grow_val1 (things n : Nat) (hn : n ≤ 2147483647) : (if (things : Int) < IntKind.i64.wrap (2 * (n : Int)) then IntKind.i64.wrap (2 * (n : Int)) else (things : Int)) = (growTo1 things n : Int) := by
  have e : IntKind.i64.wrap (2 * (n : Int)) = 2 * (n : Int) := by rw [IntKind.wrap_i64]; omega
  rw [e]
  unfold growTo1
  split <;> split <;> omega
theorem grow_val (cap k : Nat) : (if (cap : Int) < (k : Int) then (cap : Int) else (k : Int)) = ((if k ≤ cap then k else cap : Nat) : Int) := by
  split <;> split <;> omega
set_option maxHeartbeats 1600000 in
theorem grow_in (w : World) (p cap : Nat) (items : List Value) (v : Value) (first : Nat) (vals : List Value) (things : Nat) (h : RingIn w p cap items v first vals) (ht : items.length ≤ things) (htc : things ≤ cap) :
    Calls Tryd.prog 27 #[.pointer (some ⟨p, 0, none⟩), .int .i64 things] w fun e w' => e = .returned (.tuple #[]) ∧ (∃ v' first' vals', Hid (RingIn w' p cap items v' first' vals') ∧ Hid (things ≤ vals'.length) ∧
      Hid (∀ k, v'.ownBlock = some k → v.ownBlock = some k ∨ w.heap.size ≤ k)) ∧ Hid (Keeps (fun k => k = p) w w') := by
  obtain ⟨x, rfl⟩ := h.slice
  have c0 : w.cell? ⟨p, 0, none⟩ = some (.int .i64 cap) := by rw [h.cells.cell]; rfl
  have c1 : w.cell? ⟨p, 1, none⟩ = some (.slice x vals.length vals.length) := by rw [h.cells.cell]; rfl
  have hcap := h.most
  have hfit := h.fits
  obtain ⟨n, hn⟩ : ∃ n, n = vals.length := ⟨_, rfl⟩
  rw [← hn] at c1 hfit
  have HH := hide h
  have HN := hide hn
  clear h hn
  by_cases hle : things ≤ n
  · go_enter Tryd.func27, Tryd.ntmps27
    go_wp2
    go_end0
    exact ⟨rfl, ⟨_, _, _, HH, (by have := HN.out; unfold Hid; omega), fun k hk => .inl hk⟩, Keeps.refl _ _⟩
  · obtain ⟨size, hsize⟩ : ∃ size, size = growTo cap things n := ⟨_, rfl⟩
    have z1 : things ≤ size := by subst hsize; unfold growTo growTo1; split <;> (try split) <;> omega
    have z2 : size ≤ cap := by subst hsize; unfold growTo growTo1; split <;> (try split) <;> omega
    have mv : ∀ w', Cells w' p 63 (ringCells cap (.slice x vals.length vals.length) first items.length) → RowAt w' 3 (.slice x vals.length vals.length) vals → Calls Tryd.prog 36 #[.pointer (some ⟨p, 0, none⟩), .int .i64 size] w' fun e w2 =>
        e = .returned (.tuple #[]) ∧ Hid (RingIn w2 p cap items (.slice (some ⟨w'.heap.size, 0, none⟩) size size) 0 (splice (List.replicate size (.int .i64 0)) 0 items)) ∧ Hid (Keeps (fun k => k = p) w' w2) := by
      intro w' hc hr
      refine (move_at w' p cap _ first items.length size vals hc hr HH.out.room (by omega) (by omega) (by have := HH.out.fits; omega) HH.out.start HH.out.one).mono ?_
      rintro e w2 ⟨rfl, a, b, c⟩
      have hw' : RingIn w' p cap items (.slice x vals.length vals.length) first vals := { HH.out with cells := hc, row := hr }
      exact ⟨rfl, hw'.moved size (by omega) z2 a.out b.out, c⟩
    have MV := hide mv
    have hlen : Hid ((splice (List.replicate size (.int .i64 0)) 0 items).length = size) := by
      unfold Hid
      rw [length_splice _ _ _ (by simp; omega)]; simp
    clear mv
    subst hsize
    go_enter Tryd.func27, Tryd.ntmps27
    go_wp2_with fail
    go_region_with ((go_at_call 36; rw [grow_val1 things n (by omega), grow_val, ← growTo]; refine (MV.out w.drew HH.out.cells.drew (HH.out.row.later (Keeps.refl (fun _ => False) w).drew (fun _ _ x => x))).mono ?_; rintro e w2 ⟨rfl, hr, hk⟩))
    all_goals
      go_wp2
      go_end0
      refine ⟨rfl, ⟨_, _, _, hr, ?_, ?_⟩, hk.out.undrew⟩
      · have := hlen.out
        unfold Hid
        omega
      · intro k e
        simp only [Value.ownBlock, Option.some.injEq] at e
        right
        rw [← e]
        exact Nat.le_refl _
end Go.Proofs.YtkmijhfimkcoiaaDoor.Rint
