/-
  package lane: remove
-/
import Derived.Test.YtnohcbdnhpaafaaDoorLnD
import Derived.Test.YtnohcbdnhpaafaaDoorQueGticket
namespace Go.Proofs.YtnohcbdnhpaafaaDoor
open Go.RowKit

variable {A : Nat → Addr} {w w' w0 : World} {own own' : Nat → Nat} {i p fp mb m : Nat} {I : Nat → Prop} {F : Int → Nat → Option Nat} {Z : Zs}

/-- what goes, told by its box -/
def outB (Z : Zs) (out : Nat × Tk → Bool) (b : Nat) : Bool := (Z.find? (fun x => x.1 == b)).any out
theorem outB_at {out : Nat × Tk → Bool} (h : (Z.map (·.1)).Nodup) {x : Nat × Tk} (hx : x ∈ Z) : outB Z out x.1 = out x := by
  unfold outB
  cases hf : Z.find? (fun y => y.1 == x.1) with
  | none =>
    rw [List.find?_eq_none] at hf
    exact absurd (by simp) (hf x hx)
  | some y =>
    have h1 := List.find?_some hf
    have h2 := List.mem_of_find?_eq_some hf
    rw [box_eq h h2 hx (by simpa using h1)]
    rfl
theorem countP_qz {out : Nat × Tk → Bool} (h : (Z.map (·.1)).Nodup) : (qz Z).countP (fun y => outB Z out y.1) = Z.countP out := by
  unfold qz
  rw [List.countP_map]
  refine List.countP_congr fun x hx => ?_
  simp only [Function.comp, outB_at h hx]
theorem filter_qz {out : Nat × Tk → Bool} (h : (Z.map (·.1)).Nodup) : (qz Z).filter (fun y => !outB Z out y.1) = qz (Z.filter (fun x => !out x)) := by
  unfold qz
  rw [List.filter_map]
  congr 1
  refine List.filter_congr fun x hx => ?_
  simp only [Function.comp, outB_at h hx]

/-- the world while all are asked -/
structure Rm (p fp mb m wb lb : Nat) (fw : Value) (Z : Zs) (out : Nat × Tk → Bool) (Ex : Nat → World → Prop) (j : Nat) (W : World) : Prop where
  box : Cells W p 85 [ptr fp, .map (some mb)]
  tks : ∀ x ∈ Z, Cells W x.1 29 (tcells x.2)
  map : ∃ F, MapF W mb m F ∧ Holds2 F Z out j
  cw : Cells W wb 117 [fw]
  cl : Cells W lb 63 [ptr p]
  ex : Ex j W
theorem sn_of4 {w1 w2 : World} {own2 : Nat → Nat} {SX : Nat → Prop} {r : Nat} (k1 : Keeps Nowhere w w1) (ag : ∀ k, k < w1.heap.size → own2 k = give own w.heap.size r k) (kp : Keeps (fun k => In4 i (give own w.heap.size r k) ∨ SX k) w1 w2) (hS : ∀ k, SX k → w.heap.size ≤ k) : Sn (In4 i) own w own2 w2 := by
  refine ⟨fun k hk => ?_, (k1.any (S := fun k => In4 i (own k))).next kp (fun k hk hlt => ?_)⟩
  · rw [ag k (Nat.lt_of_lt_of_le hk k1.size), give_old hk]
  · rcases hk with e | e
    · rw [give_old hlt] at e
      exact e
    · have := hS k e
      omega

set_option maxHeartbeats 1000000 in
theorem remove_gen (h : LnI own i w p fp mb F Z m) (hm : m ≤ 8796093022208) (fn : Fn) (bs cs : Array Value) (out : Nat × Tk → Bool) (Ex : Nat → World → Prop) (SX : Nat → Prop) (hSX : ∀ k, SX k → k < w.heap.size ∧ own k ≠ i + 1)
    (hE0 : ∀ W, Keeps Nowhere w W → Ex 0 W) (hEK : ∀ j W W', Ex j W → Keeps (fun k => w.heap.size ≤ k) W W' → Ex j W')
    (hcb : ∀ j x W, Z[j]? = some x → Rm p fp mb m (w.heap.size + 1) w.heap.size (.func fn bs cs) Z out Ex j W → Calls Tryd.prog 74 #[ptr x.1, ptr (w.heap.size + 1), ptr w.heap.size] W fun e W' => e = .returned (.bool (out x)) ∧ Aside (Rm p fp mb m (w.heap.size + 1) w.heap.size (.func fn bs cs) Z out Ex (j + 1) W') ∧ Aside (Keeps (fun k => k = mb ∨ SX k) W W')) :
    Calls Tryd.prog 61 #[ptr p, .func fn bs cs] w fun e w' => ∃ own', e = .returned (.int .i64 (Z.countP out)) ∧ Aside (LnO own' i w' p (Z.filter (fun x => !out x)) m ∧ (∀ k, k < w.heap.size → own' k = own k) ∧ Keeps (fun k => In4 i (own k) ∨ SX k) w w') := by
  obtain ⟨W0, hW0⟩ : ∃ W0, W0 = (w.alloc (.cells #[ptr p] 63)).alloc (.cells #[.func fn bs cs] 117) := ⟨_, rfl⟩
  have k0 : Keeps Nowhere w W0 := by rw [hW0]; exact ((Keeps.refl _ _).alloc _).alloc _
  have C0 : Cells W0 w.heap.size 63 [ptr p] := by rw [hW0]; exact (Cells.new w _ _).later (S := Nowhere) ((Keeps.refl _ _).alloc _) (fun x => x)
  have D0 : Cells W0 (w.heap.size + 1) 117 [.func fn bs cs] := by
    have h := Cells.new (w.alloc (.cells #[ptr p] 63)) 117 [.func fn bs cs]
    rw [World.size_alloc] at h
    rw [hW0]; exact h
  have hsz : W0.heap.size = w.heap.size + 2 := by rw [hW0, World.size_alloc, World.size_alloc]
  have H0 := h.sn (I := fun _ => False) (Sn.quiet k0 (i + 5)) (fun _ _ x => x)
  have l0 : W0.cell? ⟨w.heap.size, 0, none⟩ = some (ptr p) := by rw [C0.cell]; rfl
  have QU := Aside.mk (queue_at W0 p fp (by rw [H0.box.1.cell]; rfl))
  have hlow : ∀ x ∈ Z, x.1 < w.heap.size := fun x hx => (h.tks x hx).1.lt
  have RM := Aside.mk (Fticket.remove_m (w := W0) H0.fifo hm (ptr (w.heap.size + 1)) (ptr w.heap.size) (fun y => outB Z out y.1) (fun j W => Rm p fp mb m (w.heap.size + 1) w.heap.size (.func fn bs cs) Z out Ex j W) (fun k => k = mb ∨ SX k)
    (fun j x W hx hR => by
      unfold qz at hx
      rw [List.getElem?_map] at hx
      cases hz : Z[j]? with
      | none => rw [hz] at hx; cases hx
      | some y =>
        rw [hz] at hx
        simp only [Option.map_some, Option.some.injEq] at hx
        subst hx
        simp only
        rw [outB_at h.ok.nodup (List.mem_of_getElem? hz)]
        exact hcb j y W hz hR)
    (fun j W W' hR hk => by
      have sm : ∀ g, g < w.heap.size + 2 → ¬ W0.heap.size ≤ g := fun g hg => by omega
      obtain ⟨F1, m1, m2⟩ := hR.map
      have := h.map.lt
      have := h.box.1.lt
      exact ⟨hR.box.later hk (sm _ (by omega)), fun x hx => (hR.tks x hx).later hk (sm _ (by have := hlow x hx; omega)), ⟨F1, m1.later hk (sm _ (by omega)), m2⟩, hR.cw.later hk (sm _ (by omega)), hR.cl.later hk (sm _ (by omega)), hEK j W W' hR.ex (hk.mono (fun k e _ => by omega))⟩)
    (fun k hk => by
      rintro (rfl | h1)
      · have := H0.mine; omega
      · rw [give_old (hSX k h1).1] at hk
        exact (hSX k h1).2 hk)
    (fun k hk => by
      rcases hk with rfl | h1
      · have := h.map.lt; omega
      · have := (hSX k h1).1; omega)
    ⟨H0.box.1, fun x hx => (H0.tks x hx).1, ⟨F, H0.map, holds2_start H0.holds out⟩, D0, C0, hE0 W0 k0⟩)
  rw [countP_qz h.ok.nodup, filter_qz h.ok.nodup] at RM
  have HH := Aside.mk H0
  have SS := Aside.mk k0
  have OK := Aside.mk h.ok
  have HS := Aside.mk hsz
  clear hcb hEK hE0 h H0 hlow C0 D0 k0 hsz hSX
  go_enter Tryd.func61, Tryd.ntmps61
  go_upto_region 1 with fail
  rw [← hW0]
  clear hW0
  go_wp2_with (first | (go_at_call 53; refine QU.it.mono ?_; rintro e w1 ⟨rfl, hw1⟩; subst hw1) | (go_at_call 73; refine RM.it.mono ?_; rintro e w2 ⟨rfl, f2, k2, r2⟩) | fail)
  go_ret
  obtain ⟨wz, rz, kz⟩ := r2.it
  have hZ : (qz Z).length = Z.length := qz_len Z
  rw [hZ] at rz
  obtain ⟨F', m1, m2⟩ := rz.map
  have o1 : ∀ k, k < w1.heap.size → (give (give own w.heap.size (i + 5)) w1.heap.size (i + 1)) k = give own w.heap.size (i + 5) k := fun k hk => give_old hk
  have ob := HH.it.box.2
  have om := HH.it.mine
  refine ⟨give (give own w.heap.size (i + 5)) w1.heap.size (i + 1), rfl, ⟨⟨fp, mb, F', ⟨rz.box.later kz (by rw [ob]; omega), (o1 _ HH.it.box.1.lt).trans ob⟩, f2.it, m1.later kz (by rw [om]; omega), (o1 _ HH.it.map.lt).trans om, ?_, zok_filter OK.it _, holds2_end m2 OK.it⟩, ?_⟩⟩
  · intro x hx
    have hx' := (List.mem_filter.1 hx).1
    have ot := HH.it.tks x hx'
    exact ⟨(rz.tks x hx').later kz (by rw [ot.2]; omega), (o1 _ ot.1.lt).trans ot.2⟩
  · have hw1 := HS.it
    refine ⟨fun k hk => ?_, (SS.it.any (S := fun k => In4 i (own k) ∨ SX k)).next k2.it (fun k hk hlt => ?_)⟩
    · rw [o1 k (by omega), give_old hk]
    · rw [give_old hlt] at hk
      rcases hk with e | rfl | e
      · left; rw [e]; exact ⟨by omega, by omega⟩
      · left
        rw [give_old hlt] at om
        rw [om]; exact ⟨by omega, by omega⟩
      · exact .inr e
end Go.Proofs.YtnohcbdnhpaafaaDoor
