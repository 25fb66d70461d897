/-
  culvertlaw03.Wipe over a list of numbers of its own
-/
import Derived.Test.YtekokdfajbajoaaRf12
namespace Go.Proofs.Ytekokdfajbajoaa
open Go.RowKit

variable {w w' : World} {v : Value} {xs : List Value}

theorem row_owns {e : TypeId} (h : RowAt w e v xs) (hm : xs.length ≤ maxLen) : w.ownsRow 0 e 1 v xs.length xs := by
  rcases h with ⟨rfl, rfl⟩ | ⟨g, rfl, hc⟩
  · exact World.ownsRow_nil _ _ _ _
  · exact ⟨by simp, .inr ⟨g, xs.length, xs.toArray, rfl, Nat.zero_le _, hc, Nat.le_refl _, hm, by simp, by simp⟩⟩
set_option maxHeartbeats 2000000 in
theorem wipe12 (x : Int) (h : RowAt w 3 v xs) (hmax : xs.length * 8 ≤ 70368744177664) : Calls Try.prog 19 #[v, .int .i64 x] w fun e w' => e = .returned (.tuple #[]) ∧ Aside (Keeps (fun c => v.ownBlock = some c) w w') := by
  obtain ⟨n, hn⟩ : ∃ n, n = xs.length := ⟨_, rfl⟩
  obtain ⟨a, ev⟩ : ∃ a, v = .slice a n n := by
    rcases h with ⟨rfl, rfl⟩ | ⟨g, rfl, _⟩
    · exact ⟨none, by rw [hn]; rfl⟩
    · exact ⟨_, by rw [hn]⟩
  subst ev
  have H := Aside.mk h
  have hn' := Aside.mk hn
  rw [← hn] at hmax
  have hnb : n ≤ 8796093022208 := by omega
  clear h hn
  go_enter Try.func19, Try.ntmps19
  go_wp2_with fail
  go_loopw [9] (fun iv wr => ∃ (m : Nat) (ys : List Value), iv = .int .i64 m ∧ m ≤ n ∧ Aside (RowAt wr 3 (.slice a n n) ys ∧ ys.length = n ∧ Keeps (fun c => Value.ownBlock (.slice a n n) = some c) w wr)) (fun iv _ => n - (intOf iv).toNat)
  case atStart => exact ⟨0, xs, rfl, Nat.zero_le _, ⟨H.it, hn'.it.symm, Keeps.refl _ _⟩⟩
  case round =>
    obtain ⟨m, ys, rfl, hm, J⟩ := hrel
    by_cases hlt : m < n
    · have hlt' : (m : Int) < (n : Int) := by omega
      obtain ⟨g, rfl, hc⟩ : ∃ g, a = some ⟨g, 0, none⟩ ∧ Cells wr g 3 ys := by
        rcases J.it.1 with ⟨e, _⟩ | ⟨g, e, hc⟩
        · injection e with _ e2 _; omega
        · injection e with e1 _ _; exact ⟨g, e1, hc⟩
      obtain ⟨u, hu⟩ : ∃ u, wr.cell? ⟨g, m, none⟩ = some u := ⟨_, (hc.cell m).trans (List.getElem?_eq_getElem (by have := J.it.2.1; omega))⟩
      have f1 := hc.frozen m
      have HC := Aside.mk hc
      clear hc
      go_wp2_with fail
      refine ⟨⟨m + 1, ys.set m (.int .i64 x), by go_num, by omega, ⟨.inr ⟨g, by rw [List.length_set, J.it.2.1], HC.it.setCell m _⟩, by rw [List.length_set]; exact J.it.2.1, J.it.2.2.setCell ⟨g, m, none⟩ _ (fun _ => rfl)⟩⟩, by simp [intOf]; omega⟩
    · obtain rfl : m = n := by omega
      go_wp2_with fail
      go_loopw [5, 6] (fun lv iv wx => ∃ (j : Nat) (zs : List Value), iv = .int .i64 j ∧ j ≤ 80 ∧ Aside (wx.ownsRow 0 3 1 lv (m + j) zs ∧ (∀ b, lv.ownBlock = some b → Value.ownBlock (.slice a m m) = some b ∨ w.heap.size ≤ b) ∧ Keeps (fun c => Value.ownBlock (.slice a m m) = some c) w wx)) (fun _ iv _ => 80 - (intOf iv).toNat)
      case atStart =>
        have o := row_owns J.it.1 (by rw [J.it.2.1]; unfold maxLen; omega)
        rw [J.it.2.1] at o
        exact ⟨0, ys, rfl, by omega, ⟨o, fun b hb => .inl hb, J.it.2.2⟩⟩
      case round =>
        clear J
        obtain ⟨j, zs, rfl, hj, J⟩ := hrel
        by_cases hlt : j < 80
        · have hlt' : (j : Int) < 80 := by omega
          go_wp2_with (at_builtin; refine wpList_appendR rfl (.tmp 22) (.tmp 24) 26 rfl 3 (.int .i64 0) 1 8 Try.underlying26 info12 rfl (by decide) wr ((Keeps.refl _ _).alloc _) 0 _ _ _ J.it.1 _ 1 [.int .i64 x] (readsK_new _ _ _) (fun x hx => by rw [List.mem_singleton.1 hx]; rfl) (by omega) (by unfold maxLen; omega) (Nat.zero_le _) rfl rfl ?_; intro v' w' O' K' B')
          refine ⟨⟨j + 1, _, by go_num, by omega, ⟨O'.it, ?_, ?_⟩⟩, by simp [intOf]; omega⟩
          · intro b hb
            rcases B'.it b hb with e | e
            · exact J.it.2.1 b e
            · have := J.it.2.2.size
              rw [World.size_alloc] at e
              exact .inr (by omega)
          · refine (J.it.2.2.alloc _).next K'.it (fun c e hc => ?_)
            rcases J.it.2.1 c e with e | e
            · exact e
            · omega
        · obtain rfl : j = 80 := by omega
          go_wp2_with fail
          go_end0
          exact ⟨rfl, ⟨J.it.2.2⟩⟩
end Go.Proofs.Ytekokdfajbajoaa
