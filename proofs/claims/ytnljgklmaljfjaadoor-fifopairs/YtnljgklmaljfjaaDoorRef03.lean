/-
  culvertref03: the document's queue: In, Sum, copied
-/
import Derived.Test.YtnljgklmaljfjaaDoorFifoOint
import Derived.Test.YtnljgklmaljfjaaDoorIv
namespace Go.Proofs.YtnljgklmaljfjaaDoor
open Go.RowKit Fint

abbrev Things := List (Int × Nat)

theorem thingInfo : (Tryd.prog.info? 46).map (fun i => (i.zero, i.size, i.bytes)) = some (some (.agg #[.int .i64 0, .int .i64 0]), 2, 16) := by kernel_rfl

/-- the cells of the thing with i ahead of it -/
theorem ReadsK.at {w : World} {s : Value} {l : Things} (h : ReadsK 2 w s l.length (flat l)) : ∃ a c, s = .slice a l.length c ∧ l.length ≤ c ∧ c ≤ maxLen ∧
    ∀ i x, l[i]? = some x → ∃ g o, a = some ⟨g, o, none⟩ ∧ w.cell? ⟨g, o + i * 2, none⟩ = some (.int .i64 x.1) ∧ w.cell? ⟨g, o + i * 2 + 1, none⟩ = some (.int .i64 x.2) := by
  obtain ⟨_, a, c, rfl, h1, h2, _, hc⟩ := h
  refine ⟨a, c, rfl, h1, h2, fun i x hx => ?_⟩
  obtain ⟨g, o, rfl, c0⟩ := hc (i * 2 + 0) (.int .i64 x.1) (flat_at l i x hx 0 (by decide))
  obtain ⟨g', o', he, c1⟩ := hc (i * 2 + 1) (.int .i64 x.2) (flat_at l i x hx 1 (by decide))
  cases he
  exact ⟨g, o, rfl, c0, c1⟩

theorem refIn_ok (w : World) (s : Value) (ns : List Int) (x : Int) (hr : ReadsOff Nowhere w s (iv ns)) (hn : ns.length ≤ maxLen) :
    Calls Tryd.prog 16 #[s, .int .i64 x] w fun e w' => e = .returned (.bool (decide (x ∈ ns))) ∧ w' = w := by
  obtain ⟨a, c, rfl, hlc, hc⟩ := hr
  rw [iv_length] at hlc ⊢
  obtain ⟨N, hN⟩ : ∃ N, N = ns.length := ⟨_, rfl⟩
  rw [← hN] at hlc hn ⊢
  have HC : Aside _ := ⟨hc⟩
  have HN : Aside _ := ⟨hN⟩
  have hn' : (N : Int) ≤ 9223372036854775807 := by unfold maxLen at hn; omega
  clear hc hN hn
  go_enter Tryd.func16, Tryd.ntmps16
  go_wp2_with fail
  go_loop [5] (fun i => ∃ k : Nat, i = .int .i64 k ∧ k ≤ N ∧ Aside (x ∉ ns.take k)) (fun i => N - (intOf i).toNat)
  case atStart => exact ⟨0, rfl, Nat.zero_le _, ⟨by simp⟩⟩
  case round =>
    obtain ⟨k, rfl, hk, hx⟩ := hrel
    rcases Nat.eq_or_lt_of_le hk with rfl | hlt
    · go_wp2
      all_goals first
        | (exfalso; omega)
        | skip
      go_ret
      refine ⟨?_, rfl⟩
      rw [decide_eq_false (by have := hx.it; rwa [HN.it, List.take_length] at this)]
      rfl
    · obtain ⟨y, hy⟩ : ∃ y, ns[k]? = some y := ⟨_, List.getElem?_eq_getElem (by rw [← HN.it]; exact hlt)⟩
      obtain ⟨ad, rfl, _, hce⟩ := HC.it k (.int .i64 y) (by simp [iv, hy])
      have HY : Aside _ := ⟨hy⟩
      clear hy
      by_cases hxy : y = x
      · subst hxy
        go_wp2
        all_goals first
          | (exfalso; omega)
          | skip
        go_ret
        refine ⟨?_, rfl⟩
        rw [decide_eq_true (List.mem_of_getElem? HY.it)]
        rfl
      · go_wp2
        all_goals first
          | (exfalso; omega)
          | skip
        go_round
        case rel => exact ⟨k + 1, by go_num, by omega, ⟨by rw [List.take_add_one, HY.it]; simp; exact ⟨hx.it, fun e => hxy e.symm⟩⟩⟩
        case measure => simp [intOf]; omega
end Go.Proofs.YtnljgklmaljfjaaDoor
