/-
  tickets and slices of tickets: ==, culvertlaw11.Same
-/
import Derived.Test.YtialmmobkmdfpaaDoorLnE
import Derived.LaidEql
namespace Go.Proofs.YtialmmobkmdfpaaDoor
open Go.RowKit

variable {A : Nat → Addr} {w w' w0 : World}

set_option maxRecDepth 100000 in
theorem tk_eql (w : World) (k k2 : Int) (s s2 v v2 : Int) : (binOp .eql 30 (.agg #[.int .i64 k, .int .u32 s, .int .u32 v]) (.agg #[.int .i64 k2, .int .u32 s2, .int .u32 v2])).run Tryd.prog w = .ok (.bool (decide (k = k2 ∧ s = s2 ∧ v = v2))) w := by
  have hst : Tryd.prog.stoodInHeld 30 = false := by kernel_rfl
  have hfo : Tryd.prog.underlying 30 = some (.struct (Tryd.prog.fieldsOf 30)) := by kernel_rfl
  have h := run_equalIn_agg (P := Tryd.prog) (w := w) 9999 30 #[.int .i64 k, .int .u32 s, .int .u32 v] #[.int .i64 k2, .int .u32 s2, .int .u32 v2] hfo hst
  rw [run_eql_struct, h]
  clear h hst hfo
  simp only [Program.fieldsOf, Tryd.underlying30]
  by_cases e0 : k = k2
  · by_cases e1 : s = s2
    · by_cases e2 : v = v2
      · simp [Op.eqFields, go_sem, e0, e1, e2]
      · simp [Op.eqFields, go_sem, e0, e1, e2]
    · simp [Op.eqFields, go_sem, e0, e1]
  · simp [Op.eqFields, go_sem, e0]
set_option maxRecDepth 100000 in
theorem tk_neq (w : World) (k k2 : Int) (s s2 v v2 : Int) : (binOp .neq 30 (.agg #[.int .i64 k, .int .u32 s, .int .u32 v]) (.agg #[.int .i64 k2, .int .u32 s2, .int .u32 v2])).run Tryd.prog w = .ok (.bool (!decide (k = k2 ∧ s = s2 ∧ v = v2))) w := by
  have hst : Tryd.prog.stoodInHeld 30 = false := by kernel_rfl
  have hfo : Tryd.prog.underlying 30 = some (.struct (Tryd.prog.fieldsOf 30)) := by kernel_rfl
  have h := run_equalIn_agg (P := Tryd.prog) (w := w) 9999 30 #[.int .i64 k, .int .u32 s, .int .u32 v] #[.int .i64 k2, .int .u32 s2, .int .u32 v2] hfo hst
  rw [run_neq_struct, h]
  clear h hst hfo
  simp only [Program.fieldsOf, Tryd.underlying30]
  by_cases e0 : k = k2
  · by_cases e1 : s = s2
    · by_cases e2 : v = v2
      · simp [Op.eqFields, go_sem, e0, e1, e2]
      · simp [Op.eqFields, go_sem, e0, e1, e2]
    · simp [Op.eqFields, go_sem, e0, e1]
  · simp [Op.eqFields, go_sem, e0]

/-- a slice reads as these tickets -/
def RdT (w : World) (v : Value) (L : List Tk) : Prop := ReadsK 3 w v L.length (flatT L)
theorem flatT_at (L : List Tk) (j : Nat) (t : Tk) (h : L[j]? = some t) (c : Nat) (hc : c < 3) : (flatT L)[j * 3 + c]? = (tcells t)[c]? := by
  induction L generalizing j with
  | nil => simp at h
  | cons x L ih =>
    cases j with
    | zero =>
      simp only [List.getElem?_cons_zero, Option.some.injEq] at h
      subst h
      rw [Nat.zero_mul, Nat.zero_add]
      simp only [flatT, List.flatMap_cons]
      rw [List.getElem?_append_left (by simpa using hc)]
    | succ j =>
      rw [List.getElem?_cons_succ] at h
      have := ih j h
      simp only [flatT, List.flatMap_cons] at this ⊢
      rw [List.getElem?_append_right (by simp; omega), show (j + 1) * 3 + c - (tcells x).length = j * 3 + c by simp; omega]
      exact this
theorem RdT.at {v : Value} {L : List Tk} (h : RdT w v L) : ∃ a c, v = .slice a L.length c ∧ L.length ≤ c ∧ c ≤ maxLen ∧ ∀ j t, L[j]? = some t → ∃ g o, a = some ⟨g, o, none⟩ ∧ w.cell? ⟨g, o + j * 3, none⟩ = some (.int .i64 t.k) ∧ w.cell? ⟨g, o + j * 3 + 1, none⟩ = some (.int .u32 t.s) ∧ w.cell? ⟨g, o + j * 3 + 2, none⟩ = some (.int .u32 t.v) := by
  obtain ⟨_, a, c, he, h1, h2, _, hc⟩ := h
  refine ⟨a, c, he, h1, h2, fun j t hx => ?_⟩
  obtain ⟨g, o, ha, h3⟩ := hc (j * 3 + 0) (.int .i64 t.k) (by rw [flatT_at L j t hx 0 (by decide)]; rfl)
  obtain ⟨g', o', ha', h4⟩ := hc (j * 3 + 1) (.int .u32 t.s) (by rw [flatT_at L j t hx 1 (by decide)]; rfl)
  obtain ⟨g2, o2, ha2, h5⟩ := hc (j * 3 + 2) (.int .u32 t.v) (by rw [flatT_at L j t hx 2 (by decide)]; rfl)
  rw [ha] at ha' ha2
  injection ha' with ha'
  injection ha' with e1 e2
  injection ha2 with ha2
  injection ha2 with e3 e4
  subst e1 e2 e3 e4
  exact ⟨g, o, ha, h3, h4, h5⟩
theorem RdT.quiet {v : Value} {L : List Tk} (h : RdT w v L) (k : Keeps Nowhere w w') : RdT w' v L := ReadsK.later h k (fun _ _ x => x)

set_option maxHeartbeats 1000000 in
theorem same_tk (a b : Value) (L : List Tk) (ha : RdT w a L) (hb : RdT w b L) : Calls Tryd.prog 12 #[a, b] w fun e w' => e = .returned (.bool true) ∧ Keeps Nowhere w w' := by
  obtain ⟨qa, ca, rfl, hla, hma, ha⟩ := ha.at
  obtain ⟨qb, cb, rfl, hlb, hmb, hb⟩ := hb.at
  obtain ⟨N, hN⟩ : ∃ N, N = L.length := ⟨_, rfl⟩
  rw [← hN] at hla hlb ⊢
  have HN := Aside.mk hN
  have HA := Aside.mk ha
  have HB := Aside.mk hb
  have hn1 : (N : Int) ≤ 9223372036854775807 := by unfold maxLen at hma; omega
  clear hN ha hb hma hmb
  go_enter Tryd.func12, Tryd.ntmps12
  go_wp2_with fail
  go_loopw [13] (fun i wr => ∃ j : Nat, i = .int .i64 j ∧ j ≤ N ∧ Aside (Keeps Nowhere w wr)) (fun i _ => N - (intOf i).toNat)
  case atStart => exact ⟨0, rfl, Nat.zero_le _, ⟨Keeps.refl _ _⟩⟩
  case round =>
    obtain ⟨j, rfl, hj, hk⟩ := hrel
    rcases Nat.eq_or_lt_of_le hj with rfl | hlt
    · go_wp2
      go_ret
      exact ⟨rfl, hk.it⟩
    · obtain ⟨t, ht⟩ : ∃ t, L[j]? = some t := ⟨_, List.getElem?_eq_getElem (by rw [← HN.it]; exact hlt)⟩
      obtain ⟨g, o, rfl, a0, a1, a2⟩ := HA.it j t ht
      obtain ⟨g2, o2, rfl, b0, b1, b2⟩ := HB.it j t ht
      have ev : ∀ {p v}, w.cell? p = some v → wr.cell? p = some v := fun {p v} h => by rw [World.cell?_of_block (hk.it.block _ (World.block_lt_of_cell? w _ h) (fun x => x))]; exact h
      have c0 := ev a0
      have c1 := ev a1
      have c2 := ev a2
      have d0 := ev b0
      have d1 := ev b1
      have d2 := ev b2
      have EQ := fun w => tk_neq w t.k t.k t.s t.s t.v t.v
      simp only [and_self, decide_true, Bool.not_true] at EQ
      have l1 : (j : Int) < N := by omega
      have l2 : (0 : Int) ≤ j := by omega
      clear a0 a1 a2 b0 b1 b2 ht ev
      go_wp2_with fail
      go_region
      go_wp2
      go_roundw
      case rel => exact ⟨j + 1, by go_num, by omega, ⟨hk.it.drew⟩⟩
      case measure => simp [intOf]; omega
end Go.Proofs.YtialmmobkmdfpaaDoor
