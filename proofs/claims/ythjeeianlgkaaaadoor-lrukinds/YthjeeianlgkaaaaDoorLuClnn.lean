/-
  package lru (lnn): Drop, refuses, makeRoom
-/
import Derived.Test.YthjeeianlgkaaaaDoorLuBlnn
import Derived.Test.YthjeeianlgkaaaaDoorRowsS
namespace Go.Proofs.YthjeeianlgkaaaaDoor.Lulnn
open Go.RowKit

variable {w w' : World} {own own' : Nat → Nat} {i c mb eb s b p q j : Nat} {l : List Nat} {f : Nat → Rx} {pf nf : Nat → Option Nat} {room k now W : Int} {L : List Rx} {I : Nat → Prop} {A : Nat → Addr} {x : Rx} {er : Value}

/-- the blocks of a cache -/
def Mine (c mb eb : Nat) (l : List Nat) : Nat → Prop := fun x => x = c ∨ x = mb ∨ x ∈ eb :: l
theorem has_fk (k : Int) : hasL (l.map f) k = (fk l (fun b => (f b).k) k).isSome := by
  unfold hasL
  rw [find_fk]
  cases fk l (fun b => (f b).k) k <;> rfl
theorem dropI (h : CaI w c mb eb l f pf nf room) (hk : Ky k) : Calls Tryd.prog 13 #[ptr c, kv k] w fun e w' => e = .returned (.bool (hasL (l.map f) k)) ∧ ∃ l1 pf1 nf1, Aside (CaI w' c mb eb l1 f pf1 nf1 room ∧ l1.map f = dropL (l.map f) k ∧ (∀ b ∈ l1, b ∈ l)) ∧ Aside (Keeps (Mine c mb eb l) w w') := by
  rw [has_fk]
  cases hm : fk l (fun b => (f b).k) k with
  | none =>
    refine (drop_none h hk hm).mono ?_
    rintro e w' ⟨rfl, rfl⟩
    refine ⟨rfl, l, pf, nf, ⟨h, (dropL_none ?_).symm, fun _ hb => hb⟩, ⟨Keeps.refl _ _⟩⟩
    rw [find_fk, hm]
    rfl
  | some b =>
    obtain ⟨bm, eb'⟩ := fk_some hm
    obtain ⟨j, hj⟩ := List.mem_iff_getElem?.1 bm
    have hf := find_ h hk
    rw [hm] at hf
    simp only [vF] at hf
    have LG := Aside.mk (letGo_ h hj)
    have E1 := Aside.mk (map_eraseD h.inj hj (List.nodup_cons.1 h.nodup).2)
    go_enter Tryd.func13, Tryd.ntmps13
    go_upto_region 4 with (first | (go_at_call 39; refine hf.mono ?_; rintro e w' ⟨rfl, rfl⟩) | (go_at_call 41; refine LG.it.mono ?_; clear LG; rintro e w3 ⟨rfl, pf', nf', J1, J2⟩) | fail)
    go_wp2
    go_ret
    exact ⟨rfl, _, pf', nf', ⟨J1.it.1, by rw [E1.it]; rw [eb'], fun b hb => List.mem_of_mem_eraseIdx hb⟩, ⟨J2.it⟩⟩
theorem refuses_nil (k : Int) (w : World) (W : Int) (hc : w.cell? ⟨1, 0, none⟩ = some er) : Calls Tryd.prog 45 #[.pointer none, kv k, .int .i64 W] w fun e w' => e = .returned er ∧ w' = w := by
  go_enter Tryd.func45, Tryd.ntmps45
  go_wp2
  go_ret
  exact ⟨rfl, rfl⟩
theorem refuses_neg (k : Int) (c : Nat) (w : World) (W : Int) (hW : W < 0) (hc : w.cell? ⟨0, 0, none⟩ = some er) : Calls Tryd.prog 45 #[ptr c, kv k, .int .i64 W] w fun e w' => e = .returned er ∧ w' = w := by
  go_enter Tryd.func45, Tryd.ntmps45
  go_wp2
  go_ret
  exact ⟨rfl, rfl⟩
theorem refuses_full (h : CaI w c mb eb l f pf nf room) (k : Int) (hW : 0 ≤ W) (hr : room < W) (hc : w.cell? ⟨5, 0, none⟩ = some er) : Calls Tryd.prog 45 #[ptr c, kv k, .int .i64 W] w fun e w' => e = .returned er ∧ w' = w := by
  have c0 : w.cell? ⟨c, 0, none⟩ = some (.int .i64 room) := h.box.cell 0
  have n0 : ¬ W < 0 := by omega
  go_enter Tryd.func45, Tryd.ntmps45
  go_wp2
  go_ret
  exact ⟨rfl, rfl⟩
theorem refuses_ok (h : CaI w c mb eb l f pf nf room) (hk : Ky k) (hW : 0 ≤ W) (hr : W ≤ room) : Calls Tryd.prog 45 #[ptr c, kv k, .int .i64 W] w fun e w' => e = .returned .nilIface ∧ w' = w := by
  have c0 : w.cell? ⟨c, 0, none⟩ = some (.int .i64 room) := h.box.cell 0
  have n0 : ¬ W < 0 := by omega
  have n1 : ¬ room < W := by omega
  have hf := find_ h hk
  generalize vF (fk l (fun b => (f b).k) k) = fv at hf
  clear h
  go_enter Tryd.func45, Tryd.ntmps45
  go_wp2_with (first | (go_at_call 39; refine hf.mono ?_; rintro e w' ⟨rfl, rfl⟩) | fail)
  go_ret
  exact ⟨rfl, rfl⟩
end Go.Proofs.YthjeeianlgkaaaaDoor.Lulnn
