/-
  package robin at keys of type int: Next, Clear; the calls by owner
-/
import Derived.Test.YtekokdfajbajoaaRbCint
import Derived.Test.YtekokdfajbajoaaRbEint
namespace Go.Proofs.Ytekokdfajbajoaa.Rbint
open Go.RowKit

variable {w w' : World} {own own' : Nat → Nat} {i r mb s x z b p q j : Nat} {l t : List Nat} {kf : Nat → Int} {pf nf : Nat → Option Nat} {k : Int} {ks : List Int} {F : Int → Option Nat}

theorem clear_nil (w : World) : Calls Try.prog 18 #[.pointer none] w fun e w' => e = .returned (.int .i64 0) ∧ w' = w := by
  have hl := len_nil w
  go_enter Try.func18, Try.ntmps18
  go_upto_region 2 with (first | (go_at_call 12; refine hl.mono ?_; rintro e w' ⟨rfl, rfl⟩) | fail)
  go_wp2
  go_ret
  exact ⟨rfl, rfl⟩
theorem clear_none (h : RbI w r mb [] kf pf nf) : Calls Try.prog 18 #[ptr r] w fun e w' => e = .returned (.int .i64 0) ∧ w' = w := by
  have hl := len_ h
  go_enter Try.func18, Try.ntmps18
  go_upto_region 2 with (first | (go_at_call 12; refine hl.mono ?_; rintro e w' ⟨rfl, rfl⟩) | fail)
  go_wp2
  go_ret
  exact ⟨rfl, rfl⟩
theorem clear_some (h : RbI w r mb (x :: t) kf pf nf) : Calls Try.prog 18 #[ptr r] w fun e w' => e = .returned (.int .i64 (x :: t).length) ∧ ∃ mb', w.heap.size ≤ mb' ∧ Aside (RbI w' r mb' [] kf (fun _ => none) (fun _ => none)) ∧ Aside (Keeps (fun c => c = r) w w') := by
  have hl := len_ h
  have hn := new_ w
  obtain ⟨w1, hw1⟩ : ∃ w1, w1 = (w.alloc (.map #[] 0)).alloc (.cells #[.map (some w.heap.size), .pointer none] 52) := ⟨_, rfl⟩
  obtain ⟨m, hm⟩ : ∃ m, m = w.heap.size := ⟨_, rfl⟩
  have N1 := new_at w
  rw [← hw1, ← hm] at hn N1
  have k1 : Keeps Nowhere w w1 := by rw [hw1]; exact ((Keeps.refl _ _).alloc _).alloc _
  have hb := h.box.later k1 (fun x => x)
  have hlt := h.box.lt
  have c1 : w1.cell? ⟨r, 0, none⟩ = some (.map (some mb)) := hb.cell 0
  have c2 : w1.cell? ⟨r, 1, none⟩ = some (ptr x) := hb.cell 1
  have f1 : ∀ j, w1.frozen? ⟨r, j, none⟩ = false := hb.frozen
  have c3 : w1.cell? ⟨m + 1, 0, none⟩ = some (.map (some m)) := N1.box.cell 0
  have c4 : w1.cell? ⟨m + 1, 1, none⟩ = some (.pointer none) := N1.box.cell 1
  have e0 : (((x :: t).length : Nat) : Int) > 0 := by rw [List.length_cons]; omega
  generalize hL : (((x :: t).length : Nat) : Int) = L at hl e0 ⊢
  have H := Aside.mk (And.intro hb (And.intro k1 (And.intro N1 (And.intro hlt hm))))
  clear h hb k1 N1 hlt hm hw1 hL
  go_enter Try.func18, Try.ntmps18
  go_upto_region 3 with (first | (go_at_call 12; refine hl.mono ?_; rintro e w' ⟨rfl, rfl⟩) | fail)
  clear hl
  go_upto_region 4 with (first | (go_at_call 8; refine hn.mono ?_; clear hn; rintro e w2 ⟨rfl, rfl⟩) | fail)
  go_wp2
  go_ret
  obtain ⟨hb, k1, N1, hlt, hm⟩ := H.it
  have k2 : Keeps (fun c => c = r) w2 ((w2.setCell ⟨r, 0, none⟩ (.map (some m))).setCell ⟨r, 1, none⟩ (.pointer none)) := ((Keeps.refl (fun c => c = r) w2).setCell ⟨r, 0, none⟩ _ (fun _ => rfl)).setCell ⟨r, 1, none⟩ _ (fun _ => rfl)
  refine ⟨rfl, m, by omega, ⟨?_, ?_, fun _ h => by simp at h, List.nodup_nil, fun _ h => by simp at h, fun _ h => by simp at h, Rg.nil⟩, ⟨k1.any.trans k2⟩⟩
  · exact (hb.setCell 0 _).setCell 1 _
  · exact (N1.map.later k2 (by omega))
theorem removeO (h : RbO own i w r ks) (hk : Ky k) : Calls Try.prog 14 #[ptr r, kv k] w fun e w' => e = .returned (.bool (inT ks k)) ∧ Aside (Keeps (fun c => own c = i) w w' ∧ RbO (give own w.heap.size i) i w' r (remL ks k)) := by
  obtain ⟨mb, l, kf, pf, nf, h, h1, h2, h3, rfl⟩ := h
  have g1 := (give_old (i := i) h.box.lt).trans h1
  have g2 := (give_old (i := i) h.map.lt).trans h2
  have g3 : ∀ b ∈ l, give own w.heap.size i b = i := fun b hb => (give_old (h.seats b hb).lt).trans (h3 b hb)
  cases hm : fk l kf k with
  | none =>
    have hin := fk_none hm
    refine (remove_none h hk hm).mono ?_
    rintro e w' ⟨rfl, rfl⟩
    unfold inT remL
    rw [decide_eq_false hin, List.erase_of_not_mem hin]
    exact ⟨rfl, Keeps.refl _ _, mb, l, kf, pf, nf, h, g1, g2, g3, rfl⟩
  | some b =>
    obtain ⟨hb, eb⟩ := fk_some hm
    have hin : k ∈ l.map kf := List.mem_map.2 ⟨b, hb, eb⟩
    obtain ⟨j, hj⟩ := List.mem_iff_getElem?.1 hb
    refine (remove_some h hk hm hj).mono ?_
    rintro e w' ⟨rfl, pf', nf', H, K⟩
    unfold inT remL
    rw [decide_eq_true hin, ← map_erase h.keys hj h.nodup eb]
    refine ⟨rfl, K.it.mono ?_, mb, l.eraseIdx j, kf, pf', nf', H.it, g1, g2, fun b hb => g3 b (List.mem_of_mem_eraseIdx hb), rfl⟩
    rintro c (e | e | e) _
    · rw [e]; exact h1
    · rw [e]; exact h2
    · exact h3 c e
theorem clearO (h : RbO own i w r ks) : Calls Try.prog 18 #[ptr r] w fun e w' => e = .returned (.int .i64 ks.length) ∧ Aside (Keeps (fun c => own c = i) w w' ∧ RbO (give own w.heap.size i) i w' r []) := by
  obtain ⟨mb, l, kf, pf, nf, h, h1, h2, h3, rfl⟩ := h
  have g1 := (give_old (i := i) h.box.lt).trans h1
  have g2 := (give_old (i := i) h.map.lt).trans h2
  rw [List.length_map]
  cases l with
  | nil =>
    refine (clear_none h).mono ?_
    rintro e w' ⟨rfl, rfl⟩
    exact ⟨rfl, Keeps.refl _ _, mb, [], kf, pf, nf, h, g1, g2, fun _ h => by simp at h, rfl⟩
  | cons x t =>
    refine (clear_some h).mono ?_
    rintro e w' ⟨rfl, mb', hmb, H, K⟩
    refine ⟨rfl, K.it.mono ?_, mb', [], kf, _, _, H.it, g1, give_new hmb, fun _ h => by simp at h, rfl⟩
    rintro c e _
    rw [e]; exact h1
end Go.Proofs.Ytekokdfajbajoaa.Rbint
