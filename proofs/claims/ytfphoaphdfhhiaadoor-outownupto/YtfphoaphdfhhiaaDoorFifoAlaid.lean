/-
  package fifo at laid: what a queue is in memory; held, Len, Weight, copied
-/
import Derived.Test.YtfphoaphdfhhiaaDoorProg
import Derived.Test.YtfphoaphdfhhiaaDoorBase
import Derived.BigQuiet
import Derived.Deep.RegionHeldLaw
import Derived.Deep.Cut
import Derived.Deep.RegionHeld3
namespace Go.Proofs.YtfphoaphdfhhiaaDoor.Flaid
open Go.RowKit

--@elems
abbrev El := Nat
def enc (x : El) : List Value := [.pointer (some ⟨x, 0, none⟩)]
def none' : El := 0
abbrev sz : Nat := 1
abbrev by' : Nat := 16
theorem enc_len (x : El) : (enc x).length = sz := rfl
theorem enc_one (x : El) : ∀ u ∈ enc x, u.oneCell' = true := by simp [enc, Value.oneCell']
theorem info : (Tryd.prog.info? 83).map (fun i => (i.zero, i.size, i.bytes)) = some (some (.agg #[.pointer none, .int .i64 0]), sz + 1, by') := by kernel_rfl
--@end

abbrev zeroW : Value := .agg #[.pointer none, .int .i64 0]

/-- a thing and its weight, in cells -/
def fl (x : El × Nat) : List Value := enc x.1 ++ [.int .i64 x.2]
def flat (q : List (El × Nat)) : List Value := q.flatMap fl
def sumW (q : List (El × Nat)) : Nat := (q.map (·.2)).sum

theorem fl_len (x : El × Nat) : (fl x).length = sz + 1 := by simp [fl, enc_len]
theorem flat_nil : flat [] = [] := rfl
theorem flat_cons (x : El × Nat) (q : List (El × Nat)) : flat (x :: q) = fl x ++ flat q := by simp [flat]
theorem flat_append (q r : List (El × Nat)) : flat (q ++ r) = flat q ++ flat r := by simp [flat]
theorem flat_one (x : El × Nat) : flat [x] = fl x := by simp [flat]
theorem flat_len (q : List (El × Nat)) : (flat q).length = q.length * (sz + 1) := by
  induction q with
  | nil => rfl
  | cons x q ih => rw [flat_cons, List.length_append, ih, fl_len, List.length_cons, Nat.succ_mul]; omega
theorem flat_at (q : List (El × Nat)) (i : Nat) (x : El × Nat) (h : q[i]? = some x) (j : Nat) (hj : j < sz + 1) : (flat q)[i * (sz + 1) + j]? = (fl x)[j]? := by
  induction q generalizing i with
  | nil => simp at h
  | cons y q ih =>
    rw [flat_cons]
    cases i with
    | zero =>
      simp only [List.getElem?_cons_zero, Option.some.injEq] at h
      subst h
      rw [List.getElem?_append_left (by rw [fl_len]; omega)]
      congr 1
      omega
    | succ i =>
      simp only [List.getElem?_cons_succ] at h
      rw [List.getElem?_append_right (by rw [fl_len, Nat.succ_mul]; omega), ← ih i h, fl_len]
      congr 1
      rw [Nat.succ_mul]
      omega
theorem flat_one' (q : List (El × Nat)) : ∀ u ∈ flat q, u.oneCell' = true := by
  intro u hu
  simp only [flat, List.mem_flatMap] at hu
  obtain ⟨x, _, hx⟩ := hu
  simp only [fl, List.mem_append, List.mem_singleton] at hx
  rcases hx with h | rfl
  · exact enc_one _ u h
  · rfl
theorem sumW_nil : sumW [] = 0 := rfl
theorem sumW_cons (x : El × Nat) (q : List (El × Nat)) : sumW (x :: q) = x.2 + sumW q := by simp [sumW]
theorem sumW_append (q r : List (El × Nat)) : sumW (q ++ r) = sumW q + sumW r := by simp [sumW]

/-- the queue's own cells -/
def fifoCells (rt rw : Nat) (v : Value) (first wt : Nat) : List Value := [.int .i64 rt, .int .i64 rw, v, .int .i64 first, .int .i64 wt]

structure FifoIn (w : World) (p rt rw : Nat) (q : List (El × Nat)) (v : Value) (first : Nat) (gone : List Value) : Prop where
  cells : Cells w p 73 (fifoCells rt rw v first (sumW q))
  row : w.ownsRow 0 83 (sz + 1) v (first + q.length) (gone ++ flat q)
  glen : gone.length = first * (sz + 1)
  things : q.length ≤ rt
  weight : sumW q ≤ rw
  rt63 : rt ≤ 9223372036854775807
  rw63 : rw ≤ 9223372036854775807

/-- the blocks of a queue -/
def Own (p : Nat) (v : Value) : Nat → Prop := fun k => k = p ∨ v.ownBlock = some k

variable {w w' : World} {p rt rw : Nat} {q : List (El × Nat)} {v : Value} {first : Nat} {gone : List Value}

theorem FifoIn.ne (h : FifoIn w p rt rw q v first gone) : v.ownBlock ≠ some p := owns_ne h.row h.cells (by decide)
theorem FifoIn.later {S : Nat → Prop} (h : FifoIn w p rt rw q v first gone) (hk : Keeps S w w') (hn : ∀ k, Own p v k → ¬ S k) : FifoIn w' p rt rw q v first gone :=
  { h with cells := h.cells.later hk (hn p (.inl rfl)), row := owns_later h.row hk (fun b hb => hn b (.inr hb)) }
theorem FifoIn.lt (h : FifoIn w p rt rw q v first gone) : ∀ k, Own p v k → k < w.heap.size := by
  rintro k (rfl | hk)
  · exact h.cells.lt
  · exact owns_lt h.row k hk
theorem FifoIn.drew (h : FifoIn w p rt rw q v first gone) : FifoIn w.drew p rt rw q v first gone := { h with cells := h.cells.drew, row := h.row }
theorem FifoIn.drewN (h : FifoIn w p rt rw q v first gone) (n : Nat) : FifoIn (w.drewN n) p rt rw q v first gone := { h with cells := h.cells.drewN n, row := h.row }
theorem FifoIn.shape (h : FifoIn w p rt rw q v first gone) : (v = .slice none 0 0 ∧ first = 0 ∧ q = []) ∨ ∃ g cap, v = .slice (some ⟨g, 0, none⟩) (first + q.length) cap ∧ first + q.length ≤ cap ∧ cap ≤ maxLen := by
  rcases h.row.2 with ⟨rfl, h0⟩ | ⟨g, cap, cur, rfl, _, _, hn, hm, _⟩
  · exact .inl ⟨rfl, by omega, List.eq_nil_of_length_eq_zero (by omega)⟩
  · exact .inr ⟨g, cap, rfl, hn, hm⟩
theorem FifoIn.small (h : FifoIn w p rt rw q v first gone) : first + q.length ≤ 9223372036854775807 := by
  rcases h.shape with ⟨_, rfl, rfl⟩ | ⟨g, cap, _, h1, h2⟩
  · simp
  · unfold maxLen at h2; omega

theorem held_nil (w : World) : Calls Tryd.prog 37 #[.pointer none] w fun e w' => e = .returned (.slice none 0 0) ∧ w' = w := by
  go_enter Tryd.func37, Tryd.ntmps37
  go_wp2
  go_ret
  exact ⟨rfl, rfl⟩
theorem weight_nil (w : World) : Calls Tryd.prog 26 #[.pointer none] w fun e w' => e = .returned (.int .i64 0) ∧ w' = w := by
  go_enter Tryd.func26, Tryd.ntmps26
  go_wp2
  go_ret
  exact ⟨rfl, rfl⟩
theorem weight_in (h : FifoIn w p rt rw q v first gone) : Calls Tryd.prog 26 #[.pointer (some ⟨p, 0, none⟩)] w fun e w' => e = .returned (.int .i64 (sumW q)) ∧ w' = w := by
  have c4 : w.cell? ⟨p, 4, none⟩ = some (.int .i64 (sumW q)) := by rw [h.cells.cell]; rfl
  clear h
  go_enter Tryd.func26, Tryd.ntmps26
  go_wp2
  go_ret
  exact ⟨rfl, rfl⟩
/-- what held answers -/
def heldV (v : Value) (first n : Nat) : Value := match v with
  | .slice (some a) _ cap => .slice (some ⟨a.block, if cap = first then 0 else first * (sz + 1), none⟩) n (cap - first)
  | v => v

theorem FifoIn.held (h : FifoIn w p rt rw q v first gone) : ReadsK (sz + 1) w (heldV v first q.length) q.length (flat q) ∧ (∀ k, (heldV v first q.length).ownBlock = some k → v.ownBlock = some k) := by
  have hr := owns_readsK h.row
  rcases h.shape with ⟨rfl, rfl, rfl⟩ | ⟨g, cap, rfl, hn, hm⟩
  · exact ⟨⟨rfl, none, 0, rfl, Nat.le_refl _, Nat.zero_le _, fun _ => rfl, fun j u hj => by simp [flat_nil] at hj⟩, fun k hk => hk⟩
  · obtain ⟨hl, a, c, he, _, _, _, hc⟩ := hr
    injection he with e1 _ e3
    subst e1 e3
    refine ⟨⟨flat_len q, _, _, rfl, by omega, by omega, fun e => (by cases e), fun j u hj => ?_⟩, fun k hk => hk⟩
    have hjl : j < q.length * (sz + 1) := by rw [← flat_len]; exact (List.getElem?_eq_some_iff.1 hj).1
    have hq : 0 < q.length := Nat.pos_of_ne_zero (fun e => by rw [e] at hjl; omega)
    obtain ⟨g', o, he, hcell⟩ := hc (first * (sz + 1) + j) u (by rw [List.getElem?_append_right (by rw [h.glen]; omega), h.glen]; rw [← hj]; congr 1; omega)
    injection he with he
    injection he with e1 e2
    subst e1 e2
    refine ⟨g, first * (sz + 1), by rw [if_neg (by omega)], ?_⟩
    rw [Nat.zero_add] at hcell
    exact hcell
theorem keeps_drew (h : ∃ m, w' = w.drewN m) : Keeps Nowhere w w' := by
  obtain ⟨m, rfl⟩ := h
  exact (Keeps.refl _ _).drewN m
theorem held_q (h : FifoIn w p rt rw q v first gone) : Calls Tryd.prog 37 #[.pointer (some ⟨p, 0, none⟩)] w fun e w' => e = .returned (heldV v first q.length) ∧ ∃ m, w' = w.drewN m := by
  have c2 : w.cell? ⟨p, 2, none⟩ = some v := by rw [h.cells.cell]; rfl
  have c3 : w.cell? ⟨p, 3, none⟩ = some (.int .i64 first) := by rw [h.cells.cell]; rfl
  rcases h.shape with ⟨rfl, rfl, rfl⟩ | ⟨g, cap, rfl, hn, hm⟩
  · clear h
    go_enter Tryd.func37, Tryd.ntmps37
    go_wp2_with fail
    go_region_held_law (fun w' => w'.cell? ⟨p, 2, none⟩ = some (.slice none 0 0) ∧ w'.cell? ⟨p, 3, none⟩ = some (.int .i64 0)) (exact ⟨c2, c3⟩) (fail)
    go_wp2
    go_ret
    exact ⟨rfl, 1, rfl⟩
  · have hs := h.small
    clear h
    obtain ⟨m, hm'⟩ : ∃ m, m = q.length := ⟨_, rfl⟩
    rw [← hm'] at c2 hn hs ⊢
    clear hm' hm
    rcases Nat.eq_or_lt_of_le (show first ≤ cap by omega) with hcf | hcf
    · obtain rfl : m = 0 := by omega
      subst hcf
      go_enter Tryd.func37, Tryd.ntmps37
      go_wp2_with fail
      go_region_held_law (fun w' => w'.cell? ⟨p, 2, none⟩ = some (.slice (some ⟨g, 0, none⟩) (first + 0) first) ∧ w'.cell? ⟨p, 3, none⟩ = some (.int .i64 first)) (exact ⟨c2, c3⟩) (fail)
      go_wp2
      go_ret
      exact ⟨by simp [heldV], 1, rfl⟩
    · have hcf' : ¬ cap = first := by omega
      go_enter Tryd.func37, Tryd.ntmps37
      go_wp2_with fail
      go_region_held_law (fun w' => w'.cell? ⟨p, 2, none⟩ = some (.slice (some ⟨g, 0, none⟩) (first + m) cap) ∧ w'.cell? ⟨p, 3, none⟩ = some (.int .i64 first)) (exact ⟨c2, c3⟩) (fail)
      go_wp2
      go_ret
      exact ⟨by simp [heldV, hcf'], 1, rfl⟩
theorem held_in (h : FifoIn w p rt rw q v first gone) : Calls Tryd.prog 37 #[.pointer (some ⟨p, 0, none⟩)] w fun e w' => e = .returned (heldV v first q.length) ∧ Keeps Nowhere w w' :=
  (held_q h).mono fun _ _ ⟨he, hm⟩ => ⟨he, keeps_drew hm⟩
theorem FifoIn.heldShape (h : FifoIn w p rt rw q v first gone) : ∃ a c, heldV v first q.length = .slice a q.length c := by
  obtain ⟨_, a, c, he, _⟩ := h.held.1
  exact ⟨a, c, he⟩
theorem len_nil (w : World) : Calls Tryd.prog 27 #[.pointer none] w fun e w' => e = .returned (.int .i64 0) ∧ w' = w := by
  go_enter Tryd.func27, Tryd.ntmps27
  go_wp2_with fail
  refine (held_nil w).mono ?_
  rintro e w1 ⟨rfl, rfl⟩
  go_wp2
  go_ret
  exact ⟨rfl, rfl⟩
theorem len_q (h : FifoIn w p rt rw q v first gone) : Calls Tryd.prog 27 #[.pointer (some ⟨p, 0, none⟩)] w fun e w' => e = .returned (.int .i64 q.length) ∧ ∃ m, w' = w.drewN m := by
  have C := hide (held_q h)
  obtain ⟨a, c, he⟩ := h.heldShape
  rw [he] at C
  obtain ⟨m, hm⟩ : ∃ m, m = q.length := ⟨_, rfl⟩
  rw [← hm] at C ⊢
  clear h he hm
  go_enter Tryd.func27, Tryd.ntmps27
  go_wp2_with fail
  refine C.out.mono ?_
  rintro e w1 ⟨rfl, hk⟩
  have HK : Aside _ := ⟨hk⟩
  clear hk
  go_wp2
  go_ret
  exact ⟨rfl, HK.it⟩
theorem len_in (h : FifoIn w p rt rw q v first gone) : Calls Tryd.prog 27 #[.pointer (some ⟨p, 0, none⟩)] w fun e w' => e = .returned (.int .i64 q.length) ∧ Keeps Nowhere w w' :=
  (len_q h).mono fun _ _ ⟨he, hm⟩ => ⟨he, keeps_drew hm⟩
/-- for a region that only reads -/
theorem len_quiet (h : FifoIn w p rt rw q v first gone) (n : Nat) : Calls Tryd.prog 27 #[.pointer (some ⟨p, 0, none⟩)] (w.drewN n) fun e w' => e = .returned (.int .i64 q.length) ∧ ∃ m, w' = w.drewN m :=
  (len_q (h.drewN n)).mono fun _ _ ⟨he, m, hm⟩ => ⟨he, n + m, by rw [hm]; simp [World.drewN, Nat.add_assoc]⟩
theorem copied_of (x : Value) (a : Option Addr) (m c : Nat) (ys : List Value) (C : Hid (Calls Tryd.prog 37 #[x] w fun e w' => e = .returned (.slice a m c) ∧ Keeps Nowhere w w')) (hr : ReadsK (sz + 1) w (.slice a m c) m ys) (h1 : ∀ u ∈ ys, u.oneCell' = true)
    (hb : m * by' ≤ 140737488355328) :
    Calls Tryd.prog 42 #[x] w fun e w' => ∃ v2, e = .returned v2 ∧ Aside (w'.ownsRow w.heap.size 83 (sz + 1) v2 m ys) ∧ Aside (Keeps Nowhere w w') := by
  obtain ⟨i0, hi, hz0, hz1, hz2⟩ := info_parts info
  have HR : Aside _ := ⟨hr⟩
  have H1 : Aside _ := ⟨h1⟩
  have HI : Aside _ := ⟨hi⟩
  have HZ0 : Aside _ := ⟨hz0⟩
  have HZ1 : Aside _ := ⟨hz1⟩
  have HZ2 : Aside _ := ⟨hz2⟩
  clear hr h1 hi hz0 hz1 hz2
  go_enter Tryd.func42, Tryd.ntmps42
  go_wp2_with fail
  refine C.out.mono ?_
  rintro e w1 ⟨rfl, hk⟩
  have K1 : Aside _ := ⟨hk⟩
  clear hk
  obtain ⟨v2, w2, run2, o2, g2, _⟩ := run_appendR (P := Tryd.prog) w1 w.heap.size 71 83 i0 zeroW (sz + 1) by' Tryd.underlying71 HI.it HZ0.it HZ1.it HZ2.it rfl (by decide) _ 0 [] (World.ownsRow_nil _ _ _ _) (.slice a m c) m ys (HR.it.later K1.it (fun _ _ x => x)) H1.it
    (by rw [Nat.zero_add]; exact hb) (by rw [Nat.zero_add]; unfold maxLen; simp only [by'] at hb; omega) K1.it.size
  rw [Nat.zero_add, List.nil_append] at o2
  have O2 : Aside _ := ⟨o2⟩
  have K2 : Aside (Keeps Nowhere w w2) := ⟨K1.it.next (grown_keeps g2) (fun k e _ => by simp [Value.ownBlock] at e)⟩
  have RUN : Aside _ := ⟨run2⟩
  clear o2 g2 run2
  go_wp2_with (at_builtin; refine wpList_appendK rfl _ (.tmp 4) _ rfl _ _ v2 w2 rfl rfl RUN.it ?_)
  go_ret
  exact ⟨_, rfl, O2, K2⟩
theorem copied_in (h : FifoIn w p rt rw q v first gone) (hb : q.length * by' ≤ 140737488355328) :
    Calls Tryd.prog 42 #[.pointer (some ⟨p, 0, none⟩)] w fun e w' => ∃ v2, e = .returned v2 ∧ Aside (w'.ownsRow w.heap.size 83 (sz + 1) v2 q.length (flat q)) ∧ Aside (Keeps Nowhere w w') := by
  have C := hide (held_in h)
  obtain ⟨a, c, he⟩ := h.heldShape
  have hr := h.held.1
  rw [he] at C hr
  exact copied_of _ a _ c _ C hr (flat_one' q) hb
theorem copied_nil (w : World) : Calls Tryd.prog 42 #[.pointer none] w fun e w' => ∃ v2, e = .returned v2 ∧ Aside (w'.ownsRow w.heap.size 83 (sz + 1) v2 0 []) ∧ Aside (Keeps Nowhere w w') :=
  copied_of _ none 0 0 [] (hide ((held_nil w).mono fun e w' h => ⟨h.1, by rw [h.2]; exact Keeps.refl _ _⟩)) ⟨rfl, _, _, rfl, Nat.le_refl _, Nat.zero_le _, fun _ => rfl, fun j u hj => by simp at hj⟩ (fun u hu => by simp at hu) (by decide)
end Go.Proofs.YtfphoaphdfhhiaaDoor.Flaid
