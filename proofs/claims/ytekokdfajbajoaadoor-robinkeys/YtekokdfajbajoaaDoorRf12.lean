/-
  law 12: sameInts; the document's Find, Without, Add, Remove, Next over a plain list
-/
import Derived.Test.YtekokdfajbajoaaDoorProg
import Derived.Test.YtekokdfajbajoaaDoorChecked
import Derived.Test.YtekokdfajbajoaaDoorRdI
import Derived.Test.YtekokdfajbajoaaDoorSnA
import Derived.BigQuiet
import Derived.Deep.Cut
import Derived.Deep.RegionHeld3
import Derived.Deep.RegionHeldLaw
import Derived.Deep.DeepCutAuto
namespace Go.Proofs.YtekokdfajbajoaaDoor
open Go.RowKit

variable {w w' : World} {v a b : Value} {xs ys : List Int} {k : Int}

theorem info12 : (Tryd.prog.info? 3).map (fun i => (i.zero, i.size, i.bytes)) = some (some (.int .i64 0), 1, 8) := by kernel_rfl
theorem RdI.shape (h : RdI w v xs) : ∃ sa sc, v = .slice sa xs.length sc ∧ ∀ k z, xs[k]? = some z → ∃ sb so, sa = some ⟨sb, so, none⟩ ∧ w.cell? ⟨sb, so + k, none⟩ = some (.int .i64 z) := by
  obtain ⟨sa, sc, e, _, _, h3⟩ := h
  exact ⟨sa, sc, e, fun k z hz => (h3 k z hz).2⟩
theorem RdI.most (h : RdI w v xs) : xs.length ≤ 9223372036854775807 := by
  obtain ⟨sa, sc, e, h1, h2, h3⟩ := h
  unfold maxLen at h2
  omega
theorem erase_first {j : Nat} (hj : xs[j]? = some k) (h : ∀ i, i < j → xs[i]? ≠ some k) : xs.eraseIdx j = xs.erase k := by
  induction xs generalizing j with
  | nil => simp at hj
  | cons y xs ih =>
    cases j with
    | zero =>
      simp only [List.getElem?_cons_zero, Option.some.injEq] at hj
      subst hj
      simp
    | succ j =>
      rw [List.getElem?_cons_succ] at hj
      have hy : y ≠ k := fun e => h 0 (by omega) (by rw [e]; rfl)
      rw [List.eraseIdx_cons_succ, List.erase_cons_tail (by simpa using hy), ih hj (fun i hi => by have := h (i + 1) (by omega); rwa [List.getElem?_cons_succ] at this)]
theorem not_there (h : ∀ i, i < xs.length → xs[i]? ≠ some k) : k ∉ xs := by
  intro hm
  obtain ⟨j, hj⟩ := List.mem_iff_getElem?.1 hm
  exact h j (List.getElem?_eq_some_iff.1 hj).1 hj
/-- the key's place, -1 if it isn't there -/
def findI (xs : List Int) (k : Int) : Int := if k ∈ xs then (xs.idxOf k : Nat) else -1
theorem idxOf_first {j : Nat} (hj : xs[j]? = some k) (h : ∀ i, i < j → xs[i]? ≠ some k) : xs.idxOf k = j := by
  induction xs generalizing j with
  | nil => simp at hj
  | cons y xs ih =>
    cases j with
    | zero =>
      simp only [List.getElem?_cons_zero, Option.some.injEq] at hj
      subst hj
      simp
    | succ j =>
      rw [List.getElem?_cons_succ] at hj
      have hy : y ≠ k := fun e => h 0 (by omega) (by rw [e]; rfl)
      have e := ih hj (fun i hi => by have := h (i + 1) (by omega); rwa [List.getElem?_cons_succ] at this)
      rw [List.idxOf_cons, e, beq_false_of_ne hy, cond_false]
theorem findI_at {j : Nat} (hj : xs[j]? = some k) (h : ∀ i, i < j → xs[i]? ≠ some k) : findI xs k = j := by
  unfold findI
  rw [if_pos (List.mem_of_getElem? hj), idxOf_first hj h]
theorem findI_none (h : k ∉ xs) : findI xs k = -1 := if_neg h
theorem first_of (h : k ∈ xs) : ∃ j : Nat, xs[j]? = some k ∧ ∀ i, i < j → xs[i]? ≠ some k := by
  induction xs with
  | nil => simp at h
  | cons y xs ih =>
    by_cases hy : y = k
    · exact ⟨0, by rw [hy]; rfl, fun i hi => by omega⟩
    · obtain ⟨j, hj, hf⟩ := ih (by rcases List.mem_cons.1 h with e | e; exact absurd e.symm hy; exact e)
      refine ⟨j + 1, by rw [List.getElem?_cons_succ]; exact hj, fun i hi => ?_⟩
      cases i with
      | zero => simpa using hy
      | succ i => rw [List.getElem?_cons_succ]; exact hf i (by omega)
theorem findI_cases (xs : List Int) (k : Int) : (k ∉ xs ∧ findI xs k = -1) ∨ ∃ j : Nat, findI xs k = j ∧ xs[j]? = some k ∧ xs.eraseIdx j = xs.erase k := by
  by_cases h : k ∈ xs
  · obtain ⟨j, hj, hf⟩ := first_of h
    exact .inr ⟨j, findI_at hj hf, hj, erase_first hj hf⟩
  · exact .inl ⟨h, findI_none h⟩
set_option maxHeartbeats 1000000 in
theorem find12 (k : Int) (h : RdI w v xs) : Calls Tryd.prog 22 #[v, .int .i64 k] w fun e w' => e = .returned (.int .i64 (findI xs k)) ∧ w' = w := by
  have hl := h.most
  obtain ⟨pa, ca, rfl, hca⟩ := h.shape
  obtain ⟨l, hn⟩ : ∃ l, l = xs.length := ⟨_, rfl⟩
  rw [← hn] at hl ⊢
  have CA := Aside.mk hca
  have HN := Aside.mk hn
  clear hca h hn
  go_enter Tryd.func22, Tryd.ntmps22
  go_wp2_with fail
  go_loopw [5] (fun i wr => ∃ m : Nat, m ≤ l ∧ i = .int .i64 m ∧ wr = w ∧ Aside (∀ i, i < m → xs[i]? ≠ some k)) (fun i _ => l - (intOf i).toNat)
  case atStart => exact ⟨0, Nat.zero_le _, rfl, rfl, ⟨fun _ h => by omega⟩⟩
  case round =>
    obtain ⟨m, hk, rfl, rfl, J⟩ := hrel
    by_cases hkl : m < l
    · have hkl' : (m : Int) < (l : Int) := by omega
      obtain ⟨u, hu⟩ : ∃ u, xs[m]? = some u := ⟨_, List.getElem?_eq_getElem (by have := HN.it; omega)⟩
      obtain ⟨xb, xo, rfl, hx⟩ := CA.it m u hu
      have HU := Aside.mk hu
      clear CA hu
      by_cases huk : u = k
      · subst huk
        go_wp2_with fail
        go_ret
        exact ⟨by rw [findI_at HU.it J.it]; rfl, rfl⟩
      · go_wp2_with fail
        refine ⟨⟨m + 1, by omega, by go_num, trivial, ⟨fun i hi => ?_⟩⟩, by simp [intOf]; omega⟩
        rcases Nat.lt_or_ge i m with h | h
        · exact J.it i h
        · obtain rfl : i = m := by omega
          rw [HU.it]
          exact fun e => huk (Option.some.inj e)
    · obtain rfl : m = l := by omega
      go_wp2_with fail
      go_ret
      exact ⟨by rw [findI_none (not_there (by rw [← HN.it]; exact J.it))]; rfl, rfl⟩
theorem take_erase {m a : Nat} {x : Int} (hm : xs[m]? = some x) (hne : m ≠ a) : (xs.take (m + 1)).eraseIdx a = (xs.take m).eraseIdx a ++ [x] := by
  have hl := (List.getElem?_eq_some_iff.1 hm).1
  rw [List.take_add_one, hm, Option.toList_some]
  rcases Nat.lt_or_ge a m with h | h
  · rw [List.eraseIdx_append_of_lt_length (by rw [List.length_take]; omega)]
  · rw [List.eraseIdx_of_length_le (by simp; omega), List.eraseIdx_of_length_le (by simp; omega)]
theorem take_erase_same {m : Nat} (hm : m < xs.length) : (xs.take (m + 1)).eraseIdx m = (xs.take m).eraseIdx m := by
  have hl : (xs.take m).length = m := by rw [List.length_take]; omega
  rw [List.take_add_one, List.getElem?_eq_getElem hm, Option.toList_some, List.eraseIdx_append_of_length_le (by omega), hl, Nat.sub_self, List.eraseIdx_cons_zero, List.append_nil, List.eraseIdx_of_length_le (by omega)]
set_option maxHeartbeats 2000000 in
theorem without12 (at_ : Int) (p : Nat) (h : RdI w v xs) (hp : ∀ m : Nat, m < xs.length → ((m : Int) = at_ ↔ m = p)) (hmax : xs.length * 8 ≤ 140737488355328) :
    Calls Tryd.prog 23 #[v, .int .i64 at_] w fun e w' => ∃ v', e = .returned v' ∧ Aside (Keeps Nowhere w w') ∧ Aside (w'.ownsRow w.heap.size 3 1 v' (xs.eraseIdx p).length (iv (xs.eraseIdx p))) := by
  have hl := h.most
  obtain ⟨pa, ca, rfl, hca⟩ := h.shape
  obtain ⟨l, hn⟩ : ∃ l, l = xs.length := ⟨_, rfl⟩
  rw [← hn] at hl hmax ⊢
  have CA := Aside.mk hca
  have HN := Aside.mk hn
  have HP := Aside.mk hp
  clear hca h hn hp
  go_enter Tryd.func23, Tryd.ntmps23
  go_wp2_with fail
  go_loopw [5, 6] (fun r i wr => ∃ m : Nat, m ≤ l ∧ i = .int .i64 m ∧ Aside (Keeps Nowhere w wr) ∧ Aside (wr.ownsRow w.heap.size 3 1 r ((xs.take m).eraseIdx p).length (iv ((xs.take m).eraseIdx p)))) (fun _ i _ => l - (intOf i).toNat)
  case atStart => exact ⟨0, Nat.zero_le _, rfl, ⟨Keeps.refl _ _⟩, ⟨World.ownsRow_nil _ _ _ _⟩⟩
  case round =>
    obtain ⟨m, hk, rfl, K, O⟩ := hrel
    by_cases hkl : m < l
    · have hkl' : (m : Int) < (l : Int) := by omega
      obtain ⟨u, hu⟩ : ∃ u, xs[m]? = some u := ⟨_, List.getElem?_eq_getElem (by have := HN.it; omega)⟩
      obtain ⟨xb, xo, rfl, hx⟩ := CA.it m u hu
      have cx : wr.cell? ⟨xb, xo + m, none⟩ = some (.int .i64 u) := by rw [K.it.bel.cell (World.block_lt_of_cell? w _ hx)]; exact hx
      have HU := Aside.mk hu
      have hpm := HP.it m (by have := HN.it; omega)
      clear CA hu hx
      by_cases hup : m = p
      · have e1 : (m : Int) = at_ := hpm.2 hup
        clear hpm
        subst e1
        go_wp2_with fail
        refine ⟨⟨m + 1, by omega, by go_num, K, ⟨?_⟩⟩, by simp [intOf]; omega⟩
        rw [← hup, take_erase_same (by have := HN.it; omega)]
        have := O.it
        rw [← hup] at this
        exact this
      · have e1 : ¬ (m : Int) = at_ := fun e => hup (hpm.1 e)
        clear hpm
        have hlen : ((xs.take m).eraseIdx p).length ≤ m := by
          have := List.length_eraseIdx_le (xs.take m) p
          rw [List.length_take] at this
          omega
        have hsz : w.heap.size ≤ wr.heap.size := K.it.size
        have HL := Aside.mk hlen
        clear hlen
        go_wp2_with (at_builtin; refine wpList_appendR rfl (.tmp 16) (.tmp 21) 29 rfl 3 (.int .i64 0) 1 8 Tryd.underlying29 info12 rfl (by decide) wr ((Keeps.refl _ _).alloc _) w.heap.size _ _ _ O.it _ 1 [.int .i64 u] (readsK_new _ _ _) (fun x hx => by rw [List.mem_singleton.1 hx]; rfl) (by have := HL.it; omega) (by have := HL.it; unfold maxLen; omega) hsz rfl rfl ?_; intro v' w' O' K' _)
        refine ⟨⟨m + 1, by omega, by go_num, ⟨?_⟩, ⟨?_⟩⟩, by simp [intOf]; omega⟩
        · refine (K.it.alloc _).next K'.it (fun c e hc => ?_)
          have := owns_base O.it c e
          omega
        · have := O'.it
          rw [take_erase HU.it hup, List.length_append, ← iv_append]
          exact this
    · obtain rfl : m = l := by omega
      go_wp2_with fail
      go_ret
      rw [List.take_of_length_le (by have := HN.it; omega)] at O
      exact ⟨_, rfl, K, O⟩
end Go.Proofs.YtekokdfajbajoaaDoor
