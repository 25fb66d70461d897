/-
  package table at int: Clear
-/
import Derived.Test.YtcdgmbaimbmdmaaDoorTbAint
namespace Go.Proofs.YtcdgmbaimbmdmaaDoor.Tbint
open Go.RowKit Go.Maps

variable {own own' : Nat → Nat} {i p k : Nat} {w w' : World} {room : Int} {L : Tl Int} {I : Nat → Prop} {A : Nat → Addr}

theorem clear_at (h : TbO own i w p room L) : Calls Tryd.prog 22 #[ptr p] w fun e w' => ∃ own', e = .returned (.int .i64 L.length) ∧ Aside (TbO own' i w' p room [] ∧ Sn (fun k => k = i) own w own' w') := by
  have hl := len_at h
  obtain ⟨mb, hc, hm, hb⟩ := h.it
  have c0 : w.cell? ⟨p, 0, none⟩ = some (.int .i64 room) := by rw [hc.1.cell]; rfl
  have c1 : w.cell? ⟨p, 1, none⟩ = some (.map (some mb)) := by rw [hc.1.cell]; rfl
  have c1' : (w.alloc (.map #[] 0)).cell? ⟨p, 1, none⟩ = some (.map (some mb)) := alloc_cell _ c1
  have f1 : (w.alloc (.map #[] 0)).frozen? ⟨p, 1, none⟩ = false := (hc.1.later ((Keeps.refl Nowhere w).alloc (.map #[] 0)) (fun x => x)).frozen 1
  have HC := Aside.mk hc
  have H := Aside.mk h
  have hpl := hc.1.lt
  clear hc hm h hb
  cases hL : L.length with
  | zero =>
    rw [hL] at hl
    have e0 : L = [] := List.eq_nil_of_length_eq_zero hL
    go_enter Tryd.func22, Tryd.ntmps22
    go_wp2_with (go_at_call 19; refine hl.mono ?_; rintro e w1 ⟨rfl, rfl⟩)
    go_ret
    exact ⟨own, rfl, ⟨by rw [← e0]; exact H.it, Sn.refl _ _ _⟩⟩
  | succ n =>
    rw [hL] at hl
    have hn : (0 : Int) < ((n + 1 : Nat) : Int) := by omega
    generalize ((n + 1 : Nat) : Int) = m at hl hn ⊢
    have hmm := mk_map w
    go_enter Tryd.func22, Tryd.ntmps22
    go_wp2_with (go_at_call 19; refine hl.mono ?_; rintro e w1 ⟨rfl, rfl⟩)
    go_ret
    have K1 : Keeps (fun k => own k = i) w1 ((w1.setCell ⟨p, 1, none⟩ (.map (some w1.heap.size))).alloc (.map #[] 0)) := ((Keeps.refl _ _).setCell _ _ (fun _ => HC.it.2)).alloc _
    refine ⟨give own w1.heap.size i, rfl, ⟨⟨⟨w1.heap.size, ⟨?_, (give_old hpl).trans HC.it.2⟩, ?_, give_new (Nat.le_refl _)⟩, Up.nil⟩, Sn.by K1 i⟩⟩
    · exact (HC.it.1.setCell 1 (.map (some w1.heap.size))).later ((Keeps.refl Nowhere _).alloc _) (fun x => x)
    · have h := MapV.made (w1.setCell ⟨p, 1, none⟩ (.map (some w1.heap.size)))
      rwa [World.size_setCell] at h
theorem clear_nil (w : World) : Calls Tryd.prog 22 #[.pointer none] w fun e w' => e = .returned (.int .i64 0) ∧ w' = w := by
  have hl := len_nil w
  go_enter Tryd.func22, Tryd.ntmps22
  go_wp2_with (go_at_call 19; refine hl.mono ?_; rintro e w1 ⟨rfl, rfl⟩)
  go_ret
  exact ⟨rfl, rfl⟩
end Go.Proofs.YtcdgmbaimbmdmaaDoor.Tbint
