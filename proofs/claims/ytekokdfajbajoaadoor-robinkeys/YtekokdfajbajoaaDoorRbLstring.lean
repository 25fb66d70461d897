/-
  package robin at keys of type string: List
-/
import Derived.Test.YtekokdfajbajoaaDoorRbEstring
namespace Go.Proofs.YtekokdfajbajoaaDoor.Rbstring
open Go.RowKit

variable {w w' : World} {own own' : Nat → Nat} {i r mb s x z b p q j : Nat} {l t : List Nat} {kf : Nat → (List UInt8)} {pf nf : Nat → Option Nat} {k : (List UInt8)} {ks : List (List UInt8)} {F : (List UInt8) → Option Nat}

theorem info_ : ∃ i, Tryd.prog.info? 9 = some i ∧ i.zero = some (.string ByteArray.empty) ∧ i.size = 1 ∧ i.bytes = 16 := by
  have h : (Tryd.prog.info? 9).map (fun i => (i.zero, i.size, i.bytes)) = some (some (.string ByteArray.empty), 1, 16) := by kernel_rfl
  cases e : Tryd.prog.info? 9 with
  | none => rw [e] at h; cases h
  | some i => rw [e] at h; simp only [Option.map_some, Option.some.injEq, Prod.mk.injEq] at h; exact ⟨i, rfl, h.1, h.2.1, h.2.2⟩
theorem fill_step (vs : List Value) (n m : Nat) (z : Value) (hm : m < n) (v : Value) (hv : vs[m]? = some v) : (vs.take m ++ List.replicate (n - m) z).set m v = vs.take (m + 1) ++ List.replicate (n - (m + 1)) z := by
  have hl := (List.getElem?_eq_some_iff.1 hv).1
  rw [List.set_append_right _ _ (by rw [List.length_take]; omega), List.length_take, Nat.min_eq_left (by omega), Nat.sub_self, show n - m = (n - (m + 1)) + 1 by omega, List.replicate_succ, List.set_cons_zero, List.take_add_one, hv]
  simp
theorem list_none (h : RbI w r mb [] kf pf nf) : Calls Tryd.prog 18 #[ptr r] w fun e w' => e = .returned (.slice none 0 0) ∧ w' = w := by
  have hl := len_ h
  go_enter Tryd.func18, Tryd.ntmps18
  go_upto_region 2 with (first | (go_at_call 19; refine hl.mono ?_; rintro e w' ⟨rfl, rfl⟩) | fail)
  go_wp2
  go_ret
  exact ⟨rfl, rfl⟩
theorem list_nil (w : World) : Calls Tryd.prog 18 #[.pointer none] w fun e w' => e = .returned (.slice none 0 0) ∧ w' = w := by
  have hl := len_nil w
  go_enter Tryd.func18, Tryd.ntmps18
  go_upto_region 2 with (first | (go_at_call 19; refine hl.mono ?_; rintro e w' ⟨rfl, rfl⟩) | fail)
  go_wp2
  go_ret
  exact ⟨rfl, rfl⟩
theorem list_some (h : RbI w r mb l kf pf nf) (h0 : l ≠ []) (hmax : l.length * 16 ≤ 140737488355328) : Calls Tryd.prog 18 #[ptr r] w fun e w' => e = .returned (.slice (some ⟨w.heap.size, 0, none⟩) l.length l.length) ∧ Aside (Cells w' w.heap.size 9 (l.map fun b => kv (kf b))) ∧ Aside (Keeps Nowhere w w') := by
  have hl := len_ h
  obtain ⟨n, hn⟩ : ∃ n, n = l.length := ⟨_, rfl⟩
  have n0 : 0 < n := by rw [hn]; exact List.length_pos_iff.2 h0
  rw [← hn] at hl hmax ⊢
  obtain ⟨i0, hi, hz0, hz1, hz2⟩ := info_
  obtain ⟨w1, hrun, hc1, hk1, hs1⟩ := run_makeK (P := Tryd.prog) w 49 9 i0 (.string ByteArray.empty) Tryd.underlying49 hi hz0 hz1 rfl n (by rw [hz2]; omega) (by omega)
  obtain ⟨g, hg⟩ : ∃ g, g = w.heap.size := ⟨_, rfl⟩
  rw [← hg] at hrun hc1 ⊢
  obtain ⟨x, hx⟩ : ∃ x, l[0]? = some x := ⟨_, List.getElem?_eq_getElem (by omega)⟩
  have hb := h.box.later hk1 (fun x => x)
  rw [hx] at hb
  have c1 : w1.cell? ⟨r, 1, none⟩ = some (ptr x) := hb.cell 1
  have HR : MakeRun Tryd.prog 49 n w _ w1 := ⟨hrun⟩
  have H := Aside.mk (And.intro h (And.intro hc1 (And.intro hk1 (And.intro hg (And.intro hn hx)))))
  have e0 : ¬ ((n : Nat) : Int) = 0 := by omega
  have hs : n ≤ 140737488355328 := by omega
  clear h hc1 hk1 hb hg hn hx hrun hi hz0 hz1 hz2 hs1 h0 hmax
  go_enter Tryd.func18, Tryd.ntmps18
  go_upto_region 3 with (first | (go_at_call 19; refine hl.mono ?_; rintro e w' ⟨rfl, rfl⟩) | fail)
  go_upto_region 4 with (first | (go_at_call 19; refine hl.mono ?_; rintro e w' ⟨rfl, rfl⟩) | (at_make; refine wpList_makeK rfl _ _ _ rfl n rfl rfl _ _ HR ?_) | fail)
  clear hl HR
  go_wp2_with fail
  go_loopw [4, 18] (fun sv iv wr => ∃ m y : Nat, iv = .int .i64 m ∧ sv = ptr y ∧ m ≤ n ∧ Aside (l[if m = n then 0 else m]? = some y ∧ Cells wr g 9 ((l.map fun b => kv (kf b)).take m ++ List.replicate (n - m) (.string ByteArray.empty)) ∧ Keeps (fun c => c = g) w1 wr)) (fun _ iv _ => n - (intOf iv).toNat)
  case atStart =>
    obtain ⟨h, hc1, hk1, hg, hn, hx⟩ := H.it
    exact ⟨0, x, rfl, rfl, by omega, ⟨by rw [if_neg (by omega)]; exact hx, by simpa using hc1, Keeps.refl _ _⟩⟩
  case round =>
    obtain ⟨m, y, rfl, rfl, hm, J⟩ := hrel
    by_cases hlt : m < n
    · have hlt' : (m : Int) < (n : Int) := by omega
      obtain ⟨h, hc1, hk1, hg, hn, hx⟩ := H.it
      obtain ⟨hy, hr, hk⟩ := J.it
      rw [if_neg (by omega)] at hy
      have hym := List.mem_of_getElem? hy
      have hs0 := h.seats y hym
      obtain ⟨q, eq, _⟩ := h.ring.behind hym
      have eq' := (h.ring m y hy).1
      rw [eq, ← hn] at eq'
      have hs1 := (hs0.later hk1 (fun x => x)).later hk (by have := hs0.lt; omega)
      rw [eq] at hs1
      have d1 : wr.cell? ⟨y, 0, none⟩ = some (kv (kf y)) := hs1.cell 0
      have d2 : wr.cell? ⟨y, 2, none⟩ = some (ptr q) := hs1.cell 2
      have d3 : ∃ u, wr.cell? ⟨g, m, none⟩ = some u := ⟨_, (hr.cell m).trans (List.getElem?_eq_getElem (by simp; omega))⟩
      obtain ⟨u, d3⟩ := d3
      have d4 := hr.frozen m
      have hgy : g ≠ y := by have := hs0.lt; omega
      have J1 := Aside.mk (And.intro hy (And.intro hr (And.intro hk (And.intro eq' hn))))
      clear h hc1 hk1 hg hn hx hy hr hk hym hs0 eq eq' hs1 J H
      go_wp2_with fail
      obtain ⟨hy, hr, hk, eq', hn⟩ := J1.it
      refine ⟨⟨m + 1, q, by go_num, rfl, by omega, ⟨?_, ?_, hk.setCell ⟨g, m, none⟩ _ (fun _ => rfl)⟩⟩, by simp [intOf]; omega⟩
      · rw [eq']; unfold nx; rfl
      · have := hr.setCell m (kv (kf y))
        rw [fill_step _ n m _ hlt _ (by rw [List.getElem?_map, hy]; rfl)] at this
        exact this
    · obtain rfl : m = n := by omega
      go_wp2_with fail
      go_ret
      obtain ⟨h, hc1, hk1, hg, hn, hx⟩ := H.it
      obtain ⟨hy, hr, hk⟩ := J.it
      rw [Nat.sub_self, List.replicate_zero, List.append_nil, List.take_of_length_le (by simp; omega)] at hr
      exact ⟨rfl, ⟨hr⟩, ⟨hk1.next hk (fun c e hc => by omega)⟩⟩
theorem listO (own : Nat → Nat) (o : Nat) (h : RbO own i w r ks) (hmax : ks.length * 16 ≤ 140737488355328) : Calls Tryd.prog 18 #[ptr r] w fun e w' => ∃ v, e = .returned v ∧ Aside (Keeps Nowhere w w' ∧ RowO (give own w.heap.size o) o w' 9 v (ks.map kv)) ∧ ∃ a, v = .slice a ks.length ks.length := by
  obtain ⟨mb, l, kf, pf, nf, h, h1, h2, h3, rfl⟩ := h
  rw [List.length_map] at hmax ⊢
  by_cases h0 : l = []
  · subst h0
    refine (list_none h).mono ?_
    rintro e w' ⟨rfl, rfl⟩
    exact ⟨_, rfl, ⟨Keeps.refl _ _, .inl ⟨rfl, rfl⟩, fun k hk => by cases hk⟩, _, rfl⟩
  · refine (list_some h h0 hmax).mono ?_
    rintro e w' ⟨rfl, hc, hk⟩
    refine ⟨_, rfl, ⟨hk.it, .inr ⟨_, ?_, by rw [List.map_map]; exact hc.it⟩, ?_⟩, _, rfl⟩
    · simp
    · intro k hk
      cases hk
      exact give_new (Nat.le_refl _)
end Go.Proofs.YtekokdfajbajoaaDoor.Rbstring
