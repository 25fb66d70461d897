/-
  package place: hinders, err, the closure of Pick, least, Pick
-/
import Derived.Test.YtnhgpnkomkiniaaDoorPlP
import Derived.Test.YtnhgpnkomkiniaaDoorKeQ
import Derived.Test.YtnhgpnkomkiniaaDoorSn
import Derived.Test.YtnhgpnkomkiniaaDoorCodedZ
import Derived.Deep.RegionHeld3
import Derived.Deep.DeepCutAuto
namespace Go.Proofs.YtnhgpnkomkiniaaDoor
open Go.RowKit

variable {A : Nat → Addr} {w w' W : World}
def natOf21 : Value → Nat | .int _ q => q.toNat | _ => 0

theorem hinders_ok (l d : Bool) (o f most : Int) (w : World) : Calls Tryd.prog 16 #[.agg #[.bool l, .bool d, .int .i64 o, .int .i64 f], .int .i64 most] w fun e w' => e = .returned (.int .i64 (hN most ⟨l, d, o, f⟩)) ∧ Aside (Keeps Nowhere w w') := by
  cases l
  · go_enter Tryd.func16, Tryd.ntmps16
    go_wp2
    go_ret
    exact ⟨rfl, ⟨(Keeps.refl _ _).alloc _⟩⟩
  cases d
  · by_cases h2 : most ≤ o
    · go_enter Tryd.func16, Tryd.ntmps16
      go_wp2
      go_ret
      exact ⟨by simp [hN, h2], ⟨(Keeps.refl _ _).alloc _⟩⟩
    · have h2' : ¬ o ≥ most := by omega
      by_cases h1 : f < 1
      · go_enter Tryd.func16, Tryd.ntmps16
        go_wp2
        go_ret
        exact ⟨by simp [hN, h2, h1], ⟨(Keeps.refl _ _).alloc _⟩⟩
      · go_enter Tryd.func16, Tryd.ntmps16
        go_wp2
        go_ret
        exact ⟨by unfold hN; rw [if_neg (by simp), if_neg (by simp), if_neg (by simp only; omega), if_neg (by simp only; omega)]; rfl, ⟨(Keeps.refl _ _).alloc _⟩⟩
  · go_enter Tryd.func16, Tryd.ntmps16
    go_wp2
    go_ret
    exact ⟨rfl, ⟨(Keeps.refl _ _).alloc _⟩⟩

/-- what a hindrance's error is -/
def errV (A : Nat → Addr) (h : Int) : Value := if h = 4 then .iface 61 (.pointer (some (A 34))) else if h = 3 then .iface 61 (.pointer (some (A 35))) else if h = 2 then .iface 61 (.pointer (some (A 30))) else if h = 1 then .iface 61 (.pointer (some (A 31))) else .nilIface
theorem errV_coded (h : Int) : Coded A (errV A h) (errN h) := by
  unfold errV errN
  split
  · exact .mk 34 35 (by decide) (by decide) rfl
  split
  · exact .mk 35 36 (by decide) (by decide) rfl
  split
  · exact .mk 30 31 (by decide) (by decide) rfl
  split
  · exact .mk 31 32 (by decide) (by decide) rfl
  exact .none
theorem err_ok (h : Int) (hs : Sents 61 codeVars A w) : Calls Tryd.prog 17 #[.int .i64 h] w fun e w' => e = .returned (errV A h) ∧ Aside (Keeps Nowhere w w') := by
  have c1 : w.cell? ⟨0, 0, none⟩ = some (.iface 61 (.pointer (some (A 34)))) := hs.cell 34 _ rfl
  have c2 : w.cell? ⟨1, 0, none⟩ = some (.iface 61 (.pointer (some (A 35)))) := hs.cell 35 _ rfl
  have c3 : w.cell? ⟨2, 0, none⟩ = some (.iface 61 (.pointer (some (A 30)))) := hs.cell 30 _ rfl
  have c4 : w.cell? ⟨3, 0, none⟩ = some (.iface 61 (.pointer (some (A 31)))) := hs.cell 31 _ rfl
  clear hs
  by_cases h4 : h = 4
  · subst h4
    go_enter Tryd.func17, Tryd.ntmps17
    go_wp2
    go_ret
    exact ⟨rfl, ⟨Keeps.refl _ _⟩⟩
  by_cases h3 : h = 3
  · subst h3
    go_enter Tryd.func17, Tryd.ntmps17
    go_wp2
    go_ret
    exact ⟨rfl, ⟨Keeps.refl _ _⟩⟩
  by_cases h2 : h = 2
  · subst h2
    go_enter Tryd.func17, Tryd.ntmps17
    go_wp2
    go_ret
    exact ⟨rfl, ⟨Keeps.refl _ _⟩⟩
  by_cases h1 : h = 1
  · subst h1
    go_enter Tryd.func17, Tryd.ntmps17
    go_wp2
    go_ret
    exact ⟨rfl, ⟨Keeps.refl _ _⟩⟩
  · go_enter Tryd.func17, Tryd.ntmps17
    go_wp2
    go_ret
    exact ⟨by simp [errV, h1, h2, h3, h4], ⟨Keeps.refl _ _⟩⟩

set_option maxHeartbeats 1000000 in
theorem less_ok (l d : Bool) (o f : Int) (l' d' : Bool) (o' f' most : Int) (bm : Nat) (hc : w.cell? ⟨bm, 0, none⟩ = some (.int .i64 most)) :
    Calls Tryd.prog 15 #[.agg #[.bool l, .bool d, .int .i64 o, .int .i64 f], .agg #[.bool l', .bool d', .int .i64 o', .int .i64 f'], ptr bm] w fun e w' => e = .returned (.bool (lessB most ⟨l, d, o, f⟩ ⟨l', d', o', f'⟩)) ∧ Aside (Keeps Nowhere w w') := by
  obtain ⟨W, hW⟩ : ∃ W, W = (w.alloc (.cells #[.bool l, .bool d, .int .i64 o, .int .i64 f] 23)).alloc (.cells #[.bool l', .bool d', .int .i64 o', .int .i64 f'] 23) := ⟨_, rfl⟩
  have K0 : Aside (Keeps Nowhere w W) := ⟨by rw [hW]; exact ((Keeps.refl _ _).alloc _).alloc _⟩
  have B0 : Aside (Cells W w.heap.size 23 [.bool l, .bool d, .int .i64 o, .int .i64 f]) := ⟨by rw [hW]; exact (Cells.new w _ _).later (S := Nowhere) ((Keeps.refl _ _).alloc _) (fun x => x)⟩
  have B1 : Aside (Cells W (w.heap.size + 1) 23 [.bool l', .bool d', .int .i64 o', .int .i64 f']) := ⟨by
    have h := Cells.new (w.alloc (.cells #[.bool l, .bool d, .int .i64 o, .int .i64 f] 23)) 23 [.bool l', .bool d', .int .i64 o', .int .i64 f']
    rw [World.size_alloc] at h
    rw [hW]; exact h⟩
  have hcW : W.cell? ⟨bm, 0, none⟩ = some (.int .i64 most) := by rw [K0.it.bel.cell (World.block_lt_of_cell? w _ hc)]; exact hc
  have a0 : W.cell? ⟨w.heap.size, 0, none⟩ = some (.bool l) := by rw [B0.it.cell]; rfl
  have a1 : W.cell? ⟨w.heap.size, 1, none⟩ = some (.bool d) := by rw [B0.it.cell]; rfl
  have a2 : W.cell? ⟨w.heap.size, 2, none⟩ = some (.int .i64 o) := by rw [B0.it.cell]; rfl
  have a3 : W.cell? ⟨w.heap.size, 3, none⟩ = some (.int .i64 f) := by rw [B0.it.cell]; rfl
  have b0 : W.cell? ⟨w.heap.size + 1, 0, none⟩ = some (.bool l') := by rw [B1.it.cell]; rfl
  have b1 : W.cell? ⟨w.heap.size + 1, 1, none⟩ = some (.bool d') := by rw [B1.it.cell]; rfl
  have b2 : W.cell? ⟨w.heap.size + 1, 2, none⟩ = some (.int .i64 o') := by rw [B1.it.cell]; rfl
  have b3 : W.cell? ⟨w.heap.size + 1, 3, none⟩ = some (.int .i64 f') := by rw [B1.it.cell]; rfl
  have H : Aside (∀ (l d : Bool) (o f m : Int) (s : KeW W), Calls Tryd.prog 16 #[.agg #[.bool l, .bool d, .int .i64 o, .int .i64 f], .int .i64 m] s.W fun e w' => e = .returned (.int .i64 (hN m ⟨l, d, o, f⟩)) ∧ ∃ m : KeW W, w' = m.W) := ⟨fun l d o f m s => KeW.call (fun W _ => hinders_ok l d o f m W) s⟩
  have cm := fun n => KeW.cell hcW n
  have ca0 := fun n => KeW.cell a0 n
  have ca1 := fun n => KeW.cell a1 n
  have ca2 := fun n => KeW.cell a2 n
  have ca3 := fun n => KeW.cell a3 n
  have cb0 := fun n => KeW.cell b0 n
  have cb1 := fun n => KeW.cell b1 n
  have cb2 := fun n => KeW.cell b2 n
  have cb3 := fun n => KeW.cell b3 n
  clear hcW a0 a1 a2 a3 b0 b1 b2 b3 hc
  haveI : Nonempty (KeW W) := ⟨⟨W, Keeps.refl _ _⟩⟩
  go_enter Tryd.func15, Tryd.ntmps15
  go_upto_region 1 with fail
  rw [← hW]
  clear hW
  generalize w.heap.size + 1 = q1 at *
  generalize w.heap.size = q0 at *
  refine wp_region_quietF (KeW.W (w1 := W)) (by kernel_rfl) (by kernel_rfl) ⟨W.drew, (Keeps.refl _ _).drew⟩ rfl ?_
  repeat (go_big_quiet_step (first | (go_at_call 16; exact H.it _ _ _ _ _ _)))
  refine wpQuiet_nil ?_
  rintro _ ⟨n, rfl⟩
  have x2 := ca2 n
  have y2 := cb2 n
  have Q := Aside.mk (K0.it.trans n.ok)
  generalize n.W = w11 at *
  clear cm ca0 ca1 ca2 ca3 cb0 cb1 cb2 cb3 H
  obtain ⟨x, hx⟩ : ∃ x, hN most ⟨l, d, o, f⟩ = x := ⟨_, rfl⟩
  obtain ⟨y, hy⟩ : ∃ y, hN most ⟨l', d', o', f'⟩ = y := ⟨_, rfl⟩
  have L : Aside (lessB most ⟨l, d, o, f⟩ ⟨l', d', o', f'⟩ = (decide (x < y) || (decide (x = y) && decide (o < o')))) := ⟨by unfold lessB; rw [hx, hy]⟩
  rw [hx, hy]
  clear hx hy
  by_cases h1 : x < y
  · go_wp2
    go_ret
    exact ⟨by rw [L.it]; simp [h1], Q⟩
  by_cases h2 : x = y
  · subst h2
    go_wp2
    go_ret
    exact ⟨by rw [L.it]; simp, Q⟩
  · go_wp2
    go_ret
    exact ⟨by rw [L.it]; simp [h1, h2], Q⟩
end Go.Proofs.YtnhgpnkomkiniaaDoor
