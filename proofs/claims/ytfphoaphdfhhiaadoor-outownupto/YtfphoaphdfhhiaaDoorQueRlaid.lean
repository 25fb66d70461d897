/-
  package fifo at laid: Remove of all, by a closure that takes every thing
-/
import Derived.Test.YtfphoaphdfhhiaaDoorQueOlaid
namespace Go.Proofs.YtfphoaphdfhhiaaDoor.Flaid
open Go.RowKit

variable {w w' : World} {p rt rw : Nat} {q : List (El × Nat)} {v : Value} {first : Nat} {gone : List Value} {own : Nat → Nat} {i : Nat}

theorem which_some (w : World) (fn : Fn) (b c : Array Value) : (binOp BinOp.eql 75 (.func fn b c) .nilFunc).run Tryd.prog w = .ok (.bool false) w := by
  kernel_rfl
theorem ReadsK.at2 (h : ReadsK (sz + 1) w v q.length (flat q)) : ∃ a c, v = .slice a q.length c ∧ q.length ≤ c ∧ c ≤ maxLen ∧ ∀ j x, q[j]? = some x → ∃ g o, a = some ⟨g, o, none⟩ ∧ w.cell? ⟨g, o + j * 2, none⟩ = some (.pointer (some ⟨x.1, 0, none⟩)) ∧ w.cell? ⟨g, o + j * 2 + 1, none⟩ = some (.int .i64 x.2) := by
  obtain ⟨_, a, c, he, h1, h2, _, hc⟩ := h
  refine ⟨a, c, he, h1, h2, fun j x hx => ?_⟩
  obtain ⟨g, o, ha, h3⟩ := hc (j * (sz + 1) + 0) (.pointer (some ⟨x.1, 0, none⟩)) (by rw [flat_at q j x hx 0 (by decide)]; rfl)
  obtain ⟨g', o', ha', h4⟩ := hc (j * (sz + 1) + 1) (.int .i64 x.2) (by rw [flat_at q j x hx 1 (by decide)]; rfl)
  rw [ha] at ha'
  injection ha' with ha'
  injection ha' with e1 e2
  subst e1 e2
  exact ⟨g, o, ha, h3, h4⟩

set_option maxHeartbeats 2000000 in
theorem remove_all (h : FifoIn w p rt rw q v first gone) (hq : q ≠ [])
    (hcall : ∀ (x : El) W, Calls Tryd.prog 29 #[.pointer (some ⟨x, 0, none⟩)] W fun e W' => e = .returned (.bool true) ∧ W' = W) :
    Calls Tryd.prog 28 #[.pointer (some ⟨p, 0, none⟩), .func (.func 29) #[] #[]] w fun e w' => e = .returned (.int .i64 q.length) ∧
      Aside (FifoIn w' p rt rw [] (.slice none 0 0) 0 []) ∧ Aside (Keeps (Own p v) w w') := by
  have HD := hide (held_in h)
  obtain ⟨hr, hv⟩ := h.held
  obtain ⟨a, c, he, hlc, hcm, hc⟩ := ReadsK.at2 hr
  rw [he] at HD hv
  have nn := which_some w (.func 29) #[] #[]
  obtain ⟨N, hN⟩ : ∃ N, N = q.length := ⟨_, rfl⟩
  rw [← hN] at HD hlc hv
  have hn0 : 0 < N := by rw [hN]; exact List.length_pos_iff.2 hq
  have HN : Aside _ := ⟨hN⟩
  have HC : Aside _ := ⟨hc⟩
  have HV : Aside _ := ⟨hv⟩
  have HF : Aside _ := ⟨h⟩
  have CL : Aside _ := ⟨hcall⟩
  have hn' : (N : Int) ≤ 9223372036854775807 := by unfold maxLen at hcm; omega
  rw [← hN]
  clear hN hc h hcall hr he hcm hv hq
  go_enter Tryd.func28, Tryd.ntmps28
  go_wp2_with (go_at_call 37; refine HD.out.mono ?_; rintro e w1 ⟨rfl, k1⟩)
  have K1 : Aside _ := ⟨k1⟩
  clear k1 nn
  go_loopw [5, 6, 7, 15] (fun s n t i wr => ∃ k : Nat, i = .int .i64 k ∧ k ≤ N ∧ n = .int .i64 k ∧ t = .int .i64 0 ∧ s = .slice none 0 0 ∧ Aside (Keeps Nowhere w wr)) (fun _ _ _ i _ => N - (intOf i).toNat)
  case atStart => exact ⟨0, rfl, Nat.zero_le _, rfl, rfl, rfl, K1⟩
  case round =>
    obtain ⟨k, rfl, hk, rfl, rfl, rfl, hkk⟩ := hrel
    rcases Nat.eq_or_lt_of_le hk with rfl | hlt
    · have HF2 : Aside _ := ⟨HF.it.later hkk.it (fun _ _ x => x)⟩
      have hz' : (0 : Int) < k := by omega
      have d2 : wr.cell? ⟨p, 2, none⟩ = some v := by rw [HF2.it.cells.cell]; rfl
      have d3 : wr.cell? ⟨p, 3, none⟩ = some (.int .i64 first) := by rw [HF2.it.cells.cell]; rfl
      have d4 : wr.cell? ⟨p, 4, none⟩ = some (.int .i64 (sumW q)) := by rw [HF2.it.cells.cell]; rfl
      have f2 := HF2.it.cells.frozen 2
      have f3 := HF2.it.cells.frozen 3
      have f4 := HF2.it.cells.frozen 4
      obtain ⟨va, vl, vc, hv⟩ : ∃ a l c, v = .slice a l c := owns_shapeK HF2.it.row
      subst hv
      go_wp2
      all_goals first
        | (exfalso; omega)
        | skip
      go_ret
      refine ⟨rfl, ⟨⟨?_, World.ownsRow_nil _ _ _ _, rfl, Nat.zero_le _, Nat.zero_le _, HF.it.rt63, HF.it.rw63⟩⟩, ⟨?_⟩⟩
      · exact ((HF2.it.cells.setCell 2 (.slice none 0 0)).setCell 3 (.int .i64 0)).setCell 4 (.int .i64 0)
      · exact (((hkk.it.any).setCell ⟨p, 2, none⟩ _ (fun _ => .inl rfl)).setCell ⟨p, 3, none⟩ _ (fun _ => .inl rfl)).setCell ⟨p, 4, none⟩ _ (fun _ => .inl rfl)
    · obtain ⟨x, hx⟩ : ∃ x, q[k]? = some x := ⟨_, List.getElem?_eq_getElem (by rw [← HN.it]; exact hlt)⟩
      obtain ⟨g, o, rfl, e0, e1⟩ := HC.it k x hx
      have e0' : wr.cell? ⟨g, o + k * 2, none⟩ = some (.pointer (some ⟨x.1, 0, none⟩)) := by
        rw [World.cell?_of_block (w := w) (hkk.it.block g (World.block_lt_of_cell? w _ e0) (fun x => x))]; exact e0
      have e1' : wr.cell? ⟨g, o + k * 2 + 1, none⟩ = some (.int .i64 x.2) := by
        rw [World.cell?_of_block (w := w) (hkk.it.block g (World.block_lt_of_cell? w _ e1) (fun x => x))]; exact e1
      have hki : (k : Int) + 1 ≤ 9223372036854775807 := by omega
      clear hx e0 e1
      obtain ⟨W2, hW2⟩ : ∃ W2, W2 = wr.alloc (.cells #[.pointer (some ⟨x.1, 0, none⟩), .int .i64 x.2] 83) := ⟨_, rfl⟩
      have K2 : Aside (Keeps Nowhere wr W2) := ⟨by rw [hW2]; exact (Keeps.refl _ _).alloc _⟩
      have D2 : Aside (Cells W2 wr.heap.size 83 [.pointer (some ⟨x.1, 0, none⟩), .int .i64 x.2]) := ⟨by rw [hW2]; exact Cells.new wr _ _⟩
      go_upto_region 8 with fail
      rw [← hW2]
      clear hW2
      have d0 : W2.cell? ⟨wr.heap.size, 0, none⟩ = some (.pointer (some ⟨x.1, 0, none⟩)) := by rw [D2.it.cell]; rfl
      go_wp2_with fail
      refine (CL.it _ _).mono ?_
      rintro e w3 ⟨rfl, rfl⟩
      clear d0
      go_wp2
      all_goals first
        | (exfalso; omega)
        | skip
      go_roundw
      case rel => exact ⟨k + 1, by go_num, by omega, by go_num, rfl, rfl, ⟨hkk.it.trans K2.it⟩⟩
      case measure => simp [intOf]; omega
theorem remove_all_o (h : FifoO own i w p rt rw q) (hq : q ≠ []) (hcall : ∀ (x : El) W, Calls Tryd.prog 29 #[.pointer (some ⟨x, 0, none⟩)] W fun e W' => e = .returned (.bool true) ∧ W' = W) :
    Calls Tryd.prog 28 #[.pointer (some ⟨p, 0, none⟩), .func (.func 29) #[] #[]] w fun e w' => e = .returned (.int .i64 q.length) ∧
      Aside (FifoO (give own w.heap.size i) i w' p rt rw []) ∧ Aside (Keeps (fun k => own k = i) w w') := by
  obtain ⟨v, f', g, h1, h2, h3, h4⟩ := id h
  refine (remove_all h1 hq hcall).mono ?_
  rintro e w' ⟨rfl, a, b⟩
  exact ⟨rfl, ⟨mk_o h1 h3 h4 a.it (Nat.zero_le _) (fun k hk => by cases hk)⟩, ⟨own_keeps h3 h4 b.it⟩⟩
end Go.Proofs.YtfphoaphdfhhiaaDoor.Flaid
