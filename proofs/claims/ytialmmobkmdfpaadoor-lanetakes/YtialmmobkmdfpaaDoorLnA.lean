/-
  package lane: the table of shapes; check, add, queue
-/
import Derived.Test.YtialmmobkmdfpaaDoorLnM
import Derived.Test.YtialmmobkmdfpaaDoorSn
import Derived.Test.YtialmmobkmdfpaaDoorCodedZ
import Derived.Test.YtialmmobkmdfpaaDoorNumSums
import Derived.BigQuiet
import Derived.Deep.Cut
import Derived.Deep.RegionHeld3
import Derived.Deep.RegionHeldLaw
namespace Go.Proofs.YtialmmobkmdfpaaDoor
open Go.RowKit

def shF (n : Nat) : Int := [0, 1, 1, 1, 1, 2, 2, 3].getD n 0
def shG (n : Nat) : Int := [0, 1, 2, 0, 8, 1, 2, 0].getD n 0
def shO (n : Nat) : Bool := [false, true, true, true, true, false, false, false].getD n false
def shL (n : Nat) : Int := [0, 0, 0, 1, 0, 0, 0, 0].getD n 0
def shM (n : Nat) : Int := [0, 0, 0, 4294967295, 0, 4294967295, 4294967295, 2].getD n 0
def shS (n : Nat) : Bool := [false, true, true, true, true, false, false, true].getD n false
structure ShapeAt (w : World) (n : Nat) : Prop where
  c0 : w.cell? ⟨2, n * 6, none⟩ = some (.int .u8 (shF n))
  c1 : w.cell? ⟨2, n * 6 + 1, none⟩ = some (.int .u16 (shG n))
  c2 : w.cell? ⟨2, n * 6 + 2, none⟩ = some (.bool (shO n))
  c3 : w.cell? ⟨2, n * 6 + 3, none⟩ = some (.int .u32 (shL n))
  c4 : w.cell? ⟨2, n * 6 + 4, none⟩ = some (.int .u32 (shM n))
  c5 : w.cell? ⟨2, n * 6 + 5, none⟩ = some (.bool (shS n))
def Shapes (w : World) : Prop := ∀ n, n < 8 → ShapeAt w n
variable {A : Nat → Addr} {w w' w0 : World} {own own' : Nat → Nat} {i : Nat} {I : Nat → Prop}
theorem Shapes.later (h : Shapes w) (hb : Below w.heap.size w w') : Shapes w' := by
  intro n hn
  have c := h n hn
  have e : ∀ a v, w.cell? a = some v → w'.cell? a = some v := fun a v hc => by
    rw [World.cell?_of_block (hb.block _ (World.block_lt_of_cell? w _ hc))]; exact hc
  exact ⟨e _ _ c.c0, e _ _ c.c1, e _ _ c.c2, e _ _ c.c3, e _ _ c.c4, e _ _ c.c5⟩
structure St11 (A : Nat → Addr) (w : World) : Prop where
  s : Sents 134 codeVars A w
  tab : Shapes w
theorem St11.later (h : St11 A w) (hb : Below w.heap.size w w') : St11 A w' := ⟨h.s.later hb, h.tab.later hb⟩
theorem St11.quiet (h : St11 A w) (hb : Keeps Nowhere w w') : St11 A w' := h.later hb.bel
structure Gl (A : Nat → Addr) (w0 : World) (own : Nat → Nat) (w : World) : Prop where
  g : Ground w0.heap.size w0 own w
  s : St11 A w0
theorem Gl.st (h : Gl A w0 own w) : St11 A w := h.s.later h.g.bel
theorem Gl.sn (h : Gl A w0 own w) (s : Sn I own w own' w') (hi : ¬ I 0) : Gl A w0 own' w' := ⟨h.g.sn s hi, h.s⟩
theorem Gl.quiet (h : Gl A w0 own w) (k : Keeps Nowhere w w') : Gl A w0 own w' := ⟨h.g.quiet k, h.s⟩
theorem Gl.start (h : St11 A w) : Gl A w (fun _ => 0) w := ⟨⟨fun _ _ => rfl, Below.refl _ _, Nat.le_refl _⟩, h⟩

abbrev tkv (k : Int) (s v : Nat) : Value := .agg #[.int .i64 k, .int .u32 s, .int .u32 v]

/-- a ticket's box -/
structure TB (w : World) (b : Nat) (k : Int) (s v : Nat) : Prop where
  c0 : w.cell? ⟨b, 0, none⟩ = some (.int .i64 k)
  c1 : w.cell? ⟨b, 1, none⟩ = some (.int .u32 s)
  c2 : w.cell? ⟨b, 2, none⟩ = some (.int .u32 v)
theorem TB.of {b : Nat} {k : Int} {s v : Nat} (h : Cells w b 30 [.int .i64 k, .int .u32 s, .int .u32 v]) : TB w b k s v :=
  ⟨by rw [h.cell]; rfl, by rw [h.cell]; rfl, by rw [h.cell]; rfl⟩
abbrev tbox (k : Int) (s v : Nat) : Obj := .cells #[.int .i64 k, .int .u32 s, .int .u32 v] 30
theorem tbox_new (w : World) (k : Int) (s v : Nat) : Cells (w.alloc (tbox k s v)) w.heap.size 30 [.int .i64 k, .int .u32 s, .int .u32 v] := Cells.new w _ _

theorem check_type (k : Int) (s v : Nat) (hs : Sents 134 codeVars A w) (hk : k < 1 ∨ 7 < k) :
    Calls Tryd.prog 34 #[tkv k s v] w fun e w' => ∃ x, e = .returned x ∧ Hid (Coded A x 12) ∧ Keeps Nowhere w w' := by
  obtain ⟨W0, hW0⟩ : ∃ W0, W0 = w.alloc (tbox k s v) := ⟨_, rfl⟩
  have K0 : Aside (Keeps Nowhere w W0) := ⟨by rw [hW0]; exact (Keeps.refl _ _).alloc _⟩
  have hc := (hs.later K0.it.bel).cell 11 5 rfl
  obtain ⟨b0, b1, b2⟩ : TB W0 w.heap.size k s v := by rw [hW0]; exact TB.of (tbox_new _ _ _ _)
  clear hs
  by_cases h1 : k < 1
  · clear hk
    go_enter Tryd.func34, Tryd.ntmps34
    go_upto_region 1 with fail
    rw [← hW0]
    clear hW0
    go_wp2
    go_ret
    exact ⟨_, rfl, hide (Coded.mk 11 12 (by decide) (by decide) rfl), K0.it⟩
  · have h2 : 7 < k := by omega
    clear hk
    go_enter Tryd.func34, Tryd.ntmps34
    go_upto_region 1 with fail
    rw [← hW0]
    clear hW0
    go_wp2
    go_ret
    exact ⟨_, rfl, hide (Coded.mk 11 12 (by decide) (by decide) rfl), K0.it⟩

/-- a kind of the seven, by its row of the table -/
theorem check_row (n s v : Nat) (hn : 1 ≤ n) (h7 : n ≤ 7) (hs : Sents 134 codeVars A w) (hc : Shapes w) :
    Calls Tryd.prog 34 #[tkv n s v] w fun e w' => ∃ x, e = .returned x ∧ Hid (Coded A x (if shO n ≠ decide (s ≠ 0) then 14 else if (v : Int) < shL n ∨ shM n < v then 15 else 0)) ∧ Keeps Nowhere w w' := by
  obtain ⟨W0, hW0⟩ : ∃ W0, W0 = w.alloc (tbox n s v) := ⟨_, rfl⟩
  have K0 : Aside (Keeps Nowhere w W0) := ⟨by rw [hW0]; exact (Keeps.refl _ _).alloc _⟩
  have B0 : Aside (TB W0 w.heap.size n s v) := ⟨by rw [hW0]; exact TB.of (tbox_new _ _ _ _)⟩
  obtain ⟨b0, b1, b2⟩ := B0.it
  obtain ⟨c0, c1, c2, c3, c4, c5⟩ := (hc.later K0.it.bel) n (by omega)
  have i0 : ¬ (n : Int) < 1 := by omega
  have i1 : ¬ (7 : Int) < n := by omega
  have i2 : (n : Int) < 8 := by omega
  have i3 : (0 : Int) ≤ n := by omega
  obtain ⟨o, hO⟩ : ∃ o, o = shO n := ⟨_, rfl⟩
  obtain ⟨l, hL⟩ : ∃ l, l = shL n := ⟨_, rfl⟩
  obtain ⟨m, hM⟩ : ∃ m, m = shM n := ⟨_, rfl⟩
  obtain ⟨f, hF⟩ : ∃ f, f = shF n := ⟨_, rfl⟩
  obtain ⟨g, hG⟩ : ∃ g, g = shG n := ⟨_, rfl⟩
  obtain ⟨b, hB⟩ : ∃ b, b = shS n := ⟨_, rfl⟩
  rw [← hF] at c0
  rw [← hG] at c1
  rw [← hO] at c2
  rw [← hL] at c3
  rw [← hM] at c4
  rw [← hB] at c5
  rw [← hO, ← hL, ← hM]
  obtain ⟨W1, hW1⟩ : ∃ W1, W1 = W0.alloc (.cells #[.int .u8 f, .int .u16 g, .bool o, .int .u32 l, .int .u32 m, .bool b] 93) := ⟨_, rfl⟩
  have K1 : Aside (Keeps Nowhere W0 W1) := ⟨by rw [hW1]; exact (Keeps.refl _ _).alloc _⟩
  have D1 : Aside (Cells W1 W0.heap.size 93 [.int .u8 f, .int .u16 g, .bool o, .int .u32 l, .int .u32 m, .bool b]) := ⟨by rw [hW1]; exact Cells.new W0 _ _⟩
  have d1 : W1.cell? ⟨w.heap.size, 1, none⟩ = some (.int .u32 s) := by rw [World.cell?_of_block (K1.it.block _ (World.block_lt_of_cell? W0 _ b1) (fun x => x))]; exact b1
  have d2 : W1.cell? ⟨w.heap.size, 2, none⟩ = some (.int .u32 v) := by rw [World.cell?_of_block (K1.it.block _ (World.block_lt_of_cell? W0 _ b2) (fun x => x))]; exact b2
  have x2 : W1.cell? ⟨W0.heap.size, 2, none⟩ = some (.bool o) := by rw [D1.it.cell]; rfl
  have x3 : W1.cell? ⟨W0.heap.size, 3, none⟩ = some (.int .u32 l) := by rw [D1.it.cell]; rfl
  have x4 : W1.cell? ⟨W0.heap.size, 4, none⟩ = some (.int .u32 m) := by rw [D1.it.cell]; rfl
  have e1 := ((hs.later K0.it.bel).later K1.it.bel).cell 13 7 rfl
  have e2 := ((hs.later K0.it.bel).later K1.it.bel).cell 14 3 rfl
  have KK : Aside (Keeps Nowhere w W1) := ⟨K0.it.trans K1.it⟩
  obtain ⟨E, hE⟩ : ∃ E : Int, Aside (E = if o ≠ decide (s ≠ 0) then 14 else if (v : Int) < l ∨ m < v then 15 else 0) := ⟨_, ⟨rfl⟩⟩
  rw [← hE.it]
  clear hs hn h7 hO hL hM hF hG hB hc
  go_enter Tryd.func34, Tryd.ntmps34
  go_upto_region 1 with fail
  rw [← hW0]
  clear hW0
  go_upto_region 4 with fail
  all_goals (try (exfalso; omega))
  rw [← hW1]
  clear hW1 c0 c1 c2 c3 c4 c5 b0 b1 b2 i0 i1 i2 i3
  by_cases hs0 : (s : Int) = 0
  · have hd : Aside (decide (s ≠ 0) = false) := ⟨by simp; omega⟩
    rw [hs0] at d1
    rw [hd.it] at hE
    cases o with
    | true =>
      obtain rfl : E = 14 := hE.it
      clear hE
      go_wp2
      go_ret
      exact ⟨_, rfl, hide (Coded.mk 13 14 (by decide) (by decide) rfl), KK.it⟩
    | false =>
      by_cases h1 : (v : Int) < l
      · obtain rfl : E = 15 := hE.it.trans (by rw [if_neg (by simp), if_pos (.inl h1)])
        clear hE
        go_wp2
        go_ret
        exact ⟨_, rfl, hide (Coded.mk 14 15 (by decide) (by decide) rfl), KK.it⟩
      · by_cases h2 : m < (v : Int)
        · obtain rfl : E = 15 := hE.it.trans (by rw [if_neg (by simp), if_pos (.inr h2)])
          clear hE
          go_wp2
          go_ret
          exact ⟨_, rfl, hide (Coded.mk 14 15 (by decide) (by decide) rfl), KK.it⟩
        · obtain rfl : E = 0 := hE.it.trans (by rw [if_neg (by simp), if_neg (by omega)])
          clear hE
          go_wp2
          go_ret
          exact ⟨_, rfl, hide Coded.none, KK.it⟩
  · have hd : Aside (decide (s ≠ 0) = true) := ⟨by simp; omega⟩
    have hs1 : ((s : Int) != 0) = true := by simpa using hs0
    clear hs0
    rw [hd.it] at hE
    cases o with
    | false =>
      obtain rfl : E = 14 := hE.it
      clear hE
      go_wp2
      go_ret
      exact ⟨_, rfl, hide (Coded.mk 13 14 (by decide) (by decide) rfl), KK.it⟩
    | true =>
      by_cases h1 : (v : Int) < l
      · obtain rfl : E = 15 := hE.it.trans (by rw [if_neg (by simp), if_pos (.inl h1)])
        clear hE
        go_wp2
        go_ret
        exact ⟨_, rfl, hide (Coded.mk 14 15 (by decide) (by decide) rfl), KK.it⟩
      · by_cases h2 : m < (v : Int)
        · obtain rfl : E = 15 := hE.it.trans (by rw [if_neg (by simp), if_pos (.inr h2)])
          clear hE
          go_wp2
          go_ret
          exact ⟨_, rfl, hide (Coded.mk 14 15 (by decide) (by decide) rfl), KK.it⟩
        · obtain rfl : E = 0 := hE.it.trans (by rw [if_neg (by simp), if_neg (by omega)])
          clear hE
          go_wp2
          go_ret
          exact ⟨_, rfl, hide Coded.none, KK.it⟩
/-- 'check' is the document's 'may be' -/
theorem row_may (n s v : Nat) (hn : 1 ≤ n) (h7 : n ≤ 7) (hv : v ≤ 4294967295) : (if shO n ≠ decide (s ≠ 0) then (14 : Int) else if (v : Int) < shL n ∨ shM n < v then 15 else 0) = (mayT ⟨n, s, v⟩ : Nat) := by
  have hr : n = 1 ∨ n = 2 ∨ n = 3 ∨ n = 4 ∨ n = 5 ∨ n = 6 ∨ n = 7 := by omega
  by_cases hs : s = 0
  all_goals rcases hr with rfl | rfl | rfl | rfl | rfl | rfl | rfl
  all_goals simp [shO, shL, shM, mayT, hs]
  all_goals (repeat' split)
  all_goals first | rfl | omega
theorem checkT_any (t : Tk) (ht : t.Wide) (h : St11 A w) :
    Calls Tryd.prog 34 #[tkv t.k t.s t.v] w fun e w' => ∃ x, e = .returned x ∧ Hid (Coded A x (mayT t : Nat)) ∧ Keeps Nowhere w w' := by
  by_cases hk : t.k < 1 ∨ 7 < t.k
  · have e : (mayT t : Int) = 12 := by simp [mayT, hk]
    rw [e]
    exact check_type t.k t.s t.v h.s hk
  · obtain ⟨n, hn⟩ : ∃ n : Nat, t.k = n := ⟨t.k.toNat, by omega⟩
    have := check_row n t.s t.v (by omega) (by omega) h.s h.tab
    rw [row_may n t.s t.v (by omega) (by omega) ht.v1, ← hn] at this
    exact this

/-- the queue of a lane -/
theorem queue_nil (w : World) : Calls Tryd.prog 31 #[.pointer none] w fun e w' => e = .returned (.pointer none) ∧ w' = w := by
  go_enter Tryd.func31, Tryd.ntmps31
  go_wp2
  go_ret
  exact ⟨rfl, rfl⟩
theorem queue_at (w : World) (p fp : Nat) (hc : w.cell? ⟨p, 0, none⟩ = some (ptr fp)) : Calls Tryd.prog 31 #[ptr p] w fun e w' => e = .returned (ptr fp) ∧ w' = w := by
  go_enter Tryd.func31, Tryd.ntmps31
  go_wp2
  go_ret
  exact ⟨rfl, rfl⟩
/-- the grant that waits becomes the sum of both -/
theorem addT_ok (b : Nat) (k : Int) (s v d : Nat) (hb : Cells w b 30 [.int .i64 k, .int .u32 s, .int .u32 v]) (h : v + d ≤ 4294967295) :
    Calls Tryd.prog 36 #[ptr b, .int .u32 d] w fun e w' => e = .returned .nilIface ∧ Cells w' b 30 [.int .i64 k, .int .u32 s, .int .u32 ((v + d : Nat) : Int)] ∧ Keeps (fun x => x = b) w w' := by
  obtain ⟨b0, b1, b2⟩ := TB.of hb
  have f2 := hb.frozen 2
  have N := Aside.mk (add_ok (v : Int) (d : Int) w (by omega) (by omega) (by omega))
  have HB := Aside.mk hb
  clear hb
  go_enter Tryd.func36, Tryd.ntmps36
  go_wp2_with (go_at_call 57; refine N.it.mono ?_; rintro e w1 ⟨rfl, rfl⟩)
  go_ret
  refine ⟨rfl, ?_, (Keeps.refl _ _).setCell _ _ (fun _ => rfl)⟩
  have := HB.it.setCell 2 (.int .u32 ((v : Int) + d))
  rw [Int.natCast_add]
  exact this
theorem addT_over (b : Nat) (k : Int) (s v d : Nat) (hb : Cells w b 30 [.int .i64 k, .int .u32 s, .int .u32 v]) (hv : v ≤ 4294967295) (h : ¬ v + d ≤ 4294967295) (hs : Sents 134 codeVars A w) :
    Calls Tryd.prog 36 #[ptr b, .int .u32 d] w fun e w' => ∃ x, e = .returned x ∧ Hid (Coded A x 4) ∧ Keeps Nowhere w w' := by
  obtain ⟨b0, b1, b2⟩ := TB.of hb
  have N := Aside.mk (add_over (v : Int) (d : Int) w hs (by omega) (by omega) (by omega))
  clear hb hs
  go_enter Tryd.func36, Tryd.ntmps36
  go_wp2_with (go_at_call 57; refine N.it.mono ?_; rintro e w1 ⟨rfl, k1⟩)
  go_ret
  exact ⟨_, rfl, hide (Coded.mk 3 4 (by decide) (by decide) rfl), Keeps.ofBelow k1⟩
end Go.Proofs.YtialmmobkmdfpaaDoor
