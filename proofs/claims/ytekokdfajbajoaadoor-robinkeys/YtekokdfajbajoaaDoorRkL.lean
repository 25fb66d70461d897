/-
  package robin at law 12's keys: List
-/
import Derived.Test.YtekokdfajbajoaaDoorRkE
namespace Go.Proofs.YtekokdfajbajoaaDoor.Rbkey
open Go.RowKit

variable {w w' : World} {own own' : Nat → Nat} {i r mb s x z b p q j : Nat} {l t : List Nat} {kf : Nat → Int} {pf nf : Nat → Option Nat} {k : Int} {ks : List Int} {F : Int → Option Nat}

theorem info_ : ∃ i, Tryd.prog.info? 28 = some i ∧ i.zero = some (.agg #[.string ByteArray.empty, .int .u32 0]) ∧ i.size = 2 ∧ i.bytes = 24 := by
  have h : (Tryd.prog.info? 28).map (fun i => (i.zero, i.size, i.bytes)) = some (some (.agg #[.string ByteArray.empty, .int .u32 0]), 2, 24) := by kernel_rfl
  cases e : Tryd.prog.info? 28 with
  | none => rw [e] at h; cases h
  | some i => rw [e] at h; simp only [Option.map_some, Option.some.injEq, Prod.mk.injEq] at h; exact ⟨i, rfl, h.1, h.2.1, h.2.2⟩
/-- a row of keys: two cells each -/
def kcs (ks : List Int) : List Value := ks.flatMap fun k => [kt k, kn k]
theorem kcs_len (ks : List Int) : (kcs ks).length = ks.length * 2 := by
  induction ks with
  | nil => rfl
  | cons k ks ih => unfold kcs at ih ⊢; rw [List.flatMap_cons, List.length_append, ih, List.length_cons, List.length_cons, List.length_cons, List.length_nil]; omega
theorem kcs_snoc (ks : List Int) (k : Int) : kcs (ks ++ [k]) = kcs ks ++ [kt k, kn k] := by unfold kcs; rw [List.flatMap_append]; simp
theorem kcs_at {ks : List Int} {m : Nat} {k : Int} (h : ks[m]? = some k) : (kcs ks)[m * 2]? = some (kt k) ∧ (kcs ks)[m * 2 + 1]? = some (kn k) := by
  induction ks generalizing m with
  | nil => simp at h
  | cons y ks ih =>
    have e : kcs (y :: ks) = kt y :: kn y :: kcs ks := rfl
    rw [e]
    cases m with
    | zero =>
      simp only [List.getElem?_cons_zero, Option.some.injEq] at h
      subst h
      exact ⟨rfl, rfl⟩
    | succ m =>
      rw [List.getElem?_cons_succ] at h
      have := ih h
      rw [show (m + 1) * 2 = m * 2 + 1 + 1 by omega]
      simpa using this
theorem run_make2 (w : World) (n : Nat) (hn : 24 * n ≤ 281474976710656) : ∃ w' zs, MakeRun Tryd.prog 40 n w (.slice (some ⟨w.heap.size, 0, none⟩) n n) w' ∧ Cells w' w.heap.size 28 zs ∧ zs.length = n * 2 ∧ Keeps Nowhere w w' := by
  obtain ⟨i, hi, hz, hs, hb⟩ := info_
  have h := run_make (P := Tryd.prog) w 40 28 i _ Tryd.underlying40 hi hz .i64 .i64 n n (by omega) (by omega) (by rw [hb, ← Int.natCast_mul]; omega) (by omega)
  generalize hm : madeCells (Value.agg #[.string ByteArray.empty, .int .u32 0]).cells ((n : Int).toNat * i.size) = mc at h
  refine ⟨_, mc.toList, ⟨h⟩, Cells.new w _ mc.toList, ?_, (Keeps.refl _ _).alloc _⟩
  rw [← hm]
  simp [madeCells, hs]
theorem list_none (h : RbI w r mb [] kf pf nf) : Calls Tryd.prog 13 #[ptr r] w fun e w' => e = .returned (.slice none 0 0) ∧ w' = w := by
  have hl := len_ h
  go_enter Tryd.func13, Tryd.ntmps13
  go_upto_region 2 with (first | (go_at_call 14; refine hl.mono ?_; rintro e w' ⟨rfl, rfl⟩) | fail)
  go_wp2
  go_ret
  exact ⟨rfl, rfl⟩
theorem fill2 (A R : List Value) (r0 r1 u v : Value) (m : Nat) (hm : m = A.length) : ((A ++ r0 :: r1 :: R).set m u).set (m + 1) v = (A ++ [u, v]) ++ R := by
  subst hm
  rw [List.set_append_right _ _ (Nat.le_refl _), Nat.sub_self, List.set_cons_zero, List.set_append_right _ _ (by omega), show A.length + 1 - A.length = 1 by omega]
  simp
theorem list_some (h : RbI w r mb l kf pf nf) (h0 : l ≠ []) (hmax : 24 * l.length ≤ 281474976710656) : Calls Tryd.prog 13 #[ptr r] w fun e w' => e = .returned (.slice (some ⟨w.heap.size, 0, none⟩) l.length l.length) ∧ Aside (Cells w' w.heap.size 28 (kcs (l.map kf))) ∧ Aside (Keeps Nowhere w w') := by
  have hl := len_ h
  obtain ⟨n, hn⟩ : ∃ n, n = l.length := ⟨_, rfl⟩
  have n0 : 0 < n := by rw [hn]; exact List.length_pos_iff.2 h0
  rw [← hn] at hl hmax ⊢
  obtain ⟨w1, zs, HR, hc1, hzl, hk1⟩ := run_make2 w n hmax
  obtain ⟨g, hg⟩ : ∃ g, g = w.heap.size := ⟨_, rfl⟩
  rw [← hg] at HR hc1 ⊢
  obtain ⟨x, hx⟩ : ∃ x, l[0]? = some x := ⟨_, List.getElem?_eq_getElem (by omega)⟩
  have hb := h.box.later hk1 (fun x => x)
  rw [hx] at hb
  have c1 : w1.cell? ⟨r, 1, none⟩ = some (ptr x) := hb.cell 1
  have H := Aside.mk (And.intro h (And.intro hc1 (And.intro hk1 (And.intro hg (And.intro hn (And.intro hx hzl))))))
  have e0 : ¬ ((n : Nat) : Int) = 0 := by omega
  have hs : n ≤ 11728124029610 := by omega
  clear h hc1 hk1 hb hg hn hx h0 hmax hzl
  go_enter Tryd.func13, Tryd.ntmps13
  go_upto_region 3 with (first | (go_at_call 14; refine hl.mono ?_; rintro e w' ⟨rfl, rfl⟩) | fail)
  go_upto_region 4 with (first | (go_at_call 14; refine hl.mono ?_; rintro e w' ⟨rfl, rfl⟩) | (at_make; refine wpList_makeK rfl _ _ _ rfl n rfl rfl _ _ HR ?_) | fail)
  clear hl HR
  go_wp2_with fail
  go_loopw [4, 18] (fun sv iv wr => ∃ m y : Nat, iv = .int .i64 m ∧ sv = ptr y ∧ m ≤ n ∧ Aside (l[if m = n then 0 else m]? = some y ∧ (∃ R, R.length = (n - m) * 2 ∧ Cells wr g 28 (kcs ((l.map kf).take m) ++ R)) ∧ Keeps (fun c => c = g) w1 wr)) (fun _ iv _ => n - (intOf iv).toNat)
  case atStart =>
    obtain ⟨h, hc1, hk1, hg, hn, hx, hzl⟩ := H.it
    exact ⟨0, x, rfl, rfl, by omega, ⟨by rw [if_neg (by omega)]; exact hx, ⟨zs, by rw [hzl]; rfl, hc1⟩, Keeps.refl _ _⟩⟩
  case round =>
    obtain ⟨m, y, rfl, rfl, hm, J⟩ := hrel
    by_cases hlt : m < n
    · have hlt' : (m : Int) < (n : Int) := by omega
      obtain ⟨h, hc1, hk1, hg, hn, hx, hzl⟩ := H.it
      obtain ⟨hy, ⟨R, hR, hr⟩, hk⟩ := J.it
      rw [if_neg (by omega)] at hy
      have hym := List.mem_of_getElem? hy
      have hs0 := h.seats y hym
      obtain ⟨q, eq, _⟩ := h.ring.behind hym
      have eq' := (h.ring m y hy).1
      rw [eq, ← hn] at eq'
      have hs1 := (hs0.later hk1 (fun x => x)).later hk (by have := hs0.lt; omega)
      rw [eq] at hs1
      obtain ⟨bx, hbx⟩ : ∃ bx, kt (kf y) = .string bx := ⟨_, rfl⟩
      obtain ⟨nx', hnx⟩ : ∃ nx', kn (kf y) = .int .u32 nx' := ⟨_, rfl⟩
      rw [hbx, hnx] at hs1
      have hA : (kcs ((l.map kf).take m)).length = m * 2 := by rw [kcs_len, List.length_take, List.length_map, Nat.min_eq_left (by omega)]
      obtain ⟨r0, r1, R', rfl⟩ : ∃ r0 r1 R', R = r0 :: r1 :: R' := by
        match R, hR with
        | [], h => exact absurd h (by simp; omega)
        | [a], h => exact absurd h (by simp; omega)
        | a :: b :: R', _ => exact ⟨a, b, R', rfl⟩
      have d0 : wr.cell? ⟨y, 0, none⟩ = some (.string bx) := hs1.cell 0
      have d1 : wr.cell? ⟨y, 1, none⟩ = some (.int .u32 nx') := hs1.cell 1
      have d2 : wr.cell? ⟨y, 3, none⟩ = some (ptr q) := hs1.cell 3
      have d3 : wr.cell? ⟨g, m * 2, none⟩ = some r0 := (hr.cell (m * 2)).trans (by rw [List.getElem?_append_right (by omega), hA, Nat.sub_self]; rfl)
      have d4 : wr.cell? ⟨g, m * 2 + 1, none⟩ = some r1 := (hr.cell (m * 2 + 1)).trans (by rw [List.getElem?_append_right (by omega), hA, show m * 2 + 1 - m * 2 = 1 by omega]; rfl)
      have d5 : ∀ j, wr.frozen? ⟨g, j, none⟩ = false := hr.frozen
      have hgy : g ≠ y := by have := hs0.lt; omega
      have J1 := Aside.mk (And.intro hy (And.intro hr (And.intro hk (And.intro eq' (And.intro hn (And.intro hA (And.intro hR (And.intro hbx hnx))))))))
      clear h hc1 hk1 hg hn hx hy hr hk hym hs0 eq eq' hs1 J H hA hR hbx hnx hzl
      go_wp2_with fail
      obtain ⟨hy, hr, hk, eq', hn, hA, hR, hbx, hnx⟩ := J1.it
      refine ⟨⟨m + 1, q, by go_num, rfl, by omega, ⟨?_, ⟨R', ?_, ?_⟩, (hk.setCell ⟨g, m * 2, none⟩ _ (fun _ => rfl)).setCell ⟨g, m * 2 + 1, none⟩ _ (fun _ => rfl)⟩⟩, by simp [intOf]; omega⟩
      · rw [eq']; unfold nx; rfl
      · rw [List.length_cons, List.length_cons] at hR; omega
      · have h3 := (hr.setCell (m * 2) (.string bx)).setCell (m * 2 + 1) (.int .u32 nx')
        rw [fill2 _ _ _ _ _ _ _ hA.symm, ← hbx, ← hnx, ← kcs_snoc] at h3
        rw [List.take_add_one, List.getElem?_map, hy]
        rw [hbx, hnx] at h3
        exact h3
    · obtain rfl : m = n := by omega
      go_wp2_with fail
      go_ret
      obtain ⟨h, hc1, hk1, hg, hn, hx, hzl⟩ := H.it
      obtain ⟨hy, ⟨R, hR, hr⟩, hk⟩ := J.it
      obtain rfl : R = [] := List.eq_nil_of_length_eq_zero (by rw [hR]; omega)
      rw [List.append_nil, List.take_of_length_le (by simp; omega)] at hr
      exact ⟨rfl, ⟨hr⟩, ⟨hk1.next hk (fun c e hc => by omega)⟩⟩
/-- a row of keys that is answered -/
def RowK (w : World) (v : Value) (ks : List Int) : Prop := ∃ a, v = .slice a ks.length ks.length ∧ ∀ m k, ks[m]? = some k → ∃ g, a = some ⟨g, 0, none⟩ ∧ w.cell? ⟨g, m * 2, none⟩ = some (kt k) ∧ w.cell? ⟨g, m * 2 + 1, none⟩ = some (kn k)
theorem listO (h : RbO own i w r ks) (hmax : 24 * ks.length ≤ 281474976710656) : Calls Tryd.prog 13 #[ptr r] w fun e w' => ∃ v, e = .returned v ∧ Aside (Keeps Nowhere w w' ∧ RowK w' v ks) := by
  obtain ⟨mb, l, kf, pf, nf, h, h1, h2, h3, rfl⟩ := h
  rw [List.length_map] at hmax
  by_cases h0 : l = []
  · subst h0
    refine (list_none h).mono ?_
    rintro e w' ⟨rfl, rfl⟩
    exact ⟨_, rfl, ⟨Keeps.refl _ _, none, rfl, fun m k hk => by simp at hk⟩⟩
  · refine (list_some h h0 hmax).mono ?_
    rintro e w' ⟨rfl, hc, hk⟩
    refine ⟨_, rfl, ⟨hk.it, _, by rw [List.length_map], fun m k hk => ?_⟩⟩
    have := kcs_at hk
    exact ⟨_, rfl, (hc.it.cell _).trans this.1, (hc.it.cell _).trans this.2⟩
end Go.Proofs.YtekokdfajbajoaaDoor.Rbkey
