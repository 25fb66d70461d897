/-
  culvertlaw03.Wipe over a list of numbers of 32 bits of its own
-/
import Derived.Test.YtbdnggkfpkfcoaaDoorLwA
namespace Go.Proofs.YtbdnggkfpkfcoaaDoor
open Go.RowKit Tbint

variable {w w' : World} {xs : List Value}

set_option maxHeartbeats 2000000 in
theorem wipe15 (x : Int) {base g n cap : Nat} (h : w.ownsRow base 37 1 (.slice (some ⟨g, 0, none⟩) n cap) n xs) (hmax : n ≤ 4294967296) : Calls Tryd.prog 40 #[.slice (some ⟨g, 0, none⟩) n cap, .int .u32 x] w fun e w' => e = .returned (.tuple #[]) ∧ Aside (Keeps (fun k => k = g) w w') := by
  have H := Aside.mk (owns_any h)
  have hcap : n ≤ cap := by
    rcases h.2 with ⟨h, _⟩ | ⟨g', cap', cur, h, _, _, h1, _⟩
    · cases h
    · cases h; exact h1
  clear h
  go_enter Tryd.func40, Tryd.ntmps40
  go_wp2_with fail
  go_loopw [9] (fun iv wr => ∃ (m : Nat) (ys : List Value), iv = .int .i64 m ∧ m ≤ n ∧ Aside (wr.ownsRow 0 37 1 (.slice (some ⟨g, 0, none⟩) n cap) n ys ∧ Keeps (fun k => k = g) w wr)) (fun iv _ => n - natOf iv)
  case atStart => exact ⟨0, xs, rfl, Nat.zero_le _, ⟨H.it, Keeps.refl _ _⟩⟩
  case round =>
    obtain ⟨m, ys, rfl, hm, J⟩ := hrel
    by_cases hlt : m < n
    · have hlt' : (m : Int) < (n : Int) := by omega
      obtain ⟨u, hu⟩ : ∃ u, wr.cell? ⟨g, m, none⟩ = some u := by
        have hl : m < ys.length := by have := J.it.1.1; omega
        have := J.it.1.cells rfl m ys[m] (List.getElem?_eq_getElem hl)
        rw [add_none, Nat.zero_add] at this
        exact ⟨_, this⟩
      have f1 := owns_frozen J.it.1 m
      go_wp2_with fail
      go_roundw
      case rel => exact ⟨m + 1, ys.set m (.int .u32 x), by go_num, by omega, ⟨owns_setCell J.it.1 m (by omega) (.int .u32 x), J.it.2.setCell ⟨g, m, none⟩ _ (fun _ => rfl)⟩⟩
      case measure => simp [natOf]; omega
    · obtain rfl : m = n := by omega
      go_wp2_with fail
      go_loopw [5, 6] (fun lv iv wx => ∃ (j : Nat) (zs : List Value), iv = .int .i64 j ∧ j ≤ 80 ∧ Aside (wx.ownsRow 0 37 1 lv (m + j) zs ∧ (∀ b, lv.ownBlock = some b → b = g ∨ w.heap.size ≤ b) ∧ Keeps (fun k => k = g) w wx)) (fun _ iv _ => 80 - natOf iv)
      case atStart => exact ⟨0, ys, rfl, by omega, ⟨J.it.1, fun b hb => by cases hb; exact .inl rfl, J.it.2⟩⟩
      case round =>
        clear J
        obtain ⟨j, zs, rfl, hj, J⟩ := hrel
        by_cases hlt : j < 80
        · have hlt' : (j : Int) < 80 := by omega
          go_wp2_with (at_builtin; refine wpList_appendR rfl (.tmp 22) (.tmp 24) 63 rfl 37 (.int .u32 0) 1 4 Tryd.underlying63 u32info rfl (by decide) wr ((Keeps.refl _ _).alloc _) 0 _ _ _ J.it.1 _ 1 [.int .u32 x] (readsK_new _ _ _) (fun x hx => by rw [List.mem_singleton.1 hx]; rfl) (by omega) (by unfold maxLen; omega) (Nat.zero_le _) rfl rfl ?_; intro v' w' O' K' B')
          refine ⟨⟨j + 1, _, by go_num, by omega, ⟨O'.it, ?_, ?_⟩⟩, by simp [natOf]; omega⟩
          · intro b hb
            rcases B'.it b hb with e | e
            · exact J.it.2.1 b e
            · have := J.it.2.2.size
              rw [World.size_alloc] at e
              exact .inr (by omega)
          · refine (J.it.2.2.alloc _).next K'.it (fun c e hc => ?_)
            rcases J.it.2.1 c e with e | e
            · exact e
            · omega
        · obtain rfl : j = 80 := by omega
          go_wp2_with fail
          go_end0
          exact ⟨rfl, ⟨J.it.2.2⟩⟩
end Go.Proofs.YtbdnggkfpkfcoaaDoor
