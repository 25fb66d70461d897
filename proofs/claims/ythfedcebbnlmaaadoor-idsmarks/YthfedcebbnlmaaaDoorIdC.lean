/-
  layer 14's laws: a list of IDs in a law's world; fixed, IdsNames
-/
import Derived.Test.YthfedcebbnlmaaaDoorIdB
import Derived.Deep.DeepCutAuto
namespace Go.Proofs.YthfedcebbnlmaaaDoor
open Go.RowKit

section
variable {own own' : Nat → Nat} {w w' w0 : World} {p : Nat} {x : Im} {I : Nat → Prop} {A : Nat → Addr} {X : List (Nat × TypeId × List Value)} {L : List (Nat × Im)}
/-- the j-th IDs is j + 1's -/
structure IdW (A : Nat → Addr) (w0 : World) (X : List (Nat × TypeId × List Value)) (L : List (Nat × Im)) (own : Nat → Nat) (w : World) : Prop where
  ids : ∀ (j : Nat) p x, L[j]? = some (p, x) → IdO own (j + 1) w p x
  g : OnI A w0 own w
  ex : ∀ x ∈ X, CellsO own 0 w x.1 x.2.1 x.2.2 ∧ w0.heap.size ≤ x.1
theorem IdW.start (hs : St14 A w) : Aside (IdW A w [] [] (fun _ => 0) w) := ⟨⟨fun j p x h => by simp at h, OnI.start hs, fun _ hx => by cases hx⟩⟩
theorem IdW.quiet (h : Aside (IdW A w0 X L own w)) (k : Keeps Nowhere w w') : Aside (IdW A w0 X L own w') := ⟨⟨fun j p x e => (h.it.ids j p x e).quiet k, h.it.g.quiet k, fun x hx => ⟨(h.it.ex x hx).1.quiet k, (h.it.ex x hx).2⟩⟩⟩
theorem IdW.set {j : Nat} {y : Im} (h : Aside (IdW A w0 X L own w)) (h' : IdO own (j + 1) w' p y) (s : Sn (fun k => k = j + 1) own w own w') : Aside (IdW A w0 X (L.set j (p, y)) own w') := by
  refine ⟨⟨fun k q z e => ?_, h.it.g.sn s (by omega), fun x hx => ⟨(h.it.ex x hx).1.sn s (by omega), (h.it.ex x hx).2⟩⟩⟩
  rw [List.getElem?_set] at e
  by_cases hk : j = k
  · rw [if_pos hk] at e
    split at e
    · obtain ⟨rfl, rfl⟩ : p = q ∧ y = z := by simpa using e
      subst hk
      exact h'
    · simp at e
  · rw [if_neg hk] at e
    exact (h.it.ids k q z e).sn s (by omega)
theorem IdW.box (h : Aside (IdW A w0 X L own w)) (t : TypeId) (cs : List Value) : Aside (IdW A w0 ((w.heap.size, t, cs) :: X) L (give own w.heap.size 0) (w.alloc (.cells cs.toArray t))) := by
  have k : Keeps Nowhere w (w.alloc (.cells cs.toArray t)) := (Keeps.refl _ _).alloc _
  have s0 : Sn (fun _ => False) own w (give own w.heap.size 0) (w.alloc (.cells cs.toArray t)) := Sn.quiet k 0
  refine ⟨⟨fun j p x e => (h.it.ids j p x e).sn s0 (fun x => x), h.it.g.sn s0 (fun x => x), fun x hx => ?_⟩⟩
  rcases List.mem_cons.1 hx with rfl | hx
  · exact ⟨⟨Cells.new w _ _, give_new (Nat.le_refl _)⟩, h.it.g.g.size⟩
  · exact ⟨(h.it.ex x hx).1.sn s0 (fun x => x), (h.it.ex x hx).2⟩
theorem IdW.less (h : Aside (IdW A w0 X L own w)) : Aside (IdW A w0 [] L own w) := ⟨⟨h.it.ids, h.it.g, fun _ hx => by cases hx⟩⟩
theorem IdW.sub {X' : List (Nat × TypeId × List Value)} (h : Aside (IdW A w0 X L own w)) (hX : ∀ x ∈ X', x ∈ X) : Aside (IdW A w0 X' L own w) := ⟨⟨h.it.ids, h.it.g, fun x hx => h.it.ex x (hX x hx)⟩⟩
/-- a box is written over; the boxes of other types stay -/
theorem IdW.put {b : Nat} {t : TypeId} {cs cs' : List Value} {X' : List (Nat × TypeId × List Value)} (h : Aside (IdW A w0 ((b, t, cs) :: X) L own w)) (hX : ∀ x ∈ X', x ∈ X ∧ x.2.1 ≠ t) (hk : Keeps (fun k => k = b) w w') (hc : Cells w' b t cs') : Aside (IdW A w0 ((b, t, cs') :: X') L own w') := by
  obtain ⟨⟨hb, ho⟩, hB⟩ := h.it.ex _ (List.mem_cons_self ..)
  simp only at hb ho hB
  refine ⟨⟨fun k q z e => ?_, ⟨⟨h.it.g.g.zero, below_next h.it.g.g.bel hk h.it.g.g.size (fun k e _ => by subst e; exact hB), Nat.le_trans h.it.g.g.size hk.size⟩, h.it.g.s⟩, fun x hx => ?_⟩⟩
  · have y := h.it.ids k q z e
    refine ⟨⟨y.at_.1.later hk (fun e' => ?_), y.at_.2⟩, y.ok⟩
    have := y.at_.2
    rw [e'] at this
    omega
  · rcases List.mem_cons.1 hx with rfl | hx
    · exact ⟨⟨hc, ho⟩, hB⟩
    · obtain ⟨h1, h2⟩ := hX x hx
      obtain ⟨⟨c1, o1⟩, b1⟩ := h.it.ex x (List.mem_cons_of_mem _ h1)
      refine ⟨⟨c1.later hk (fun e' => h2 ?_), o1⟩, b1⟩
      rw [e'] at c1
      have := Option.some.inj (c1.symm.trans hb)
      injection this
theorem IdW.bel (h : Aside (IdW A w0 X L own w)) : Below w0.heap.size w0 w := h.it.g.g.bel
theorem IdW.st (h : Aside (IdW A w0 X L own w)) : St14 A w := h.it.g.st
theorem new14 (h : Aside (IdW A w0 X L own w)) (c : Bool) (n : Int) (h1 : 0 ≤ n) (h2 : n ≤ 2147483647) : Calls Tryd.prog 8 #[.bool c, .int .i64 n] w fun e w' => ∃ p own', e = .returned (.tuple #[ptr p, .nilIface]) ∧ Aside (IdW A w0 X (L ++ [(p, Im.new (pty c) n)]) own' w') := by
  refine (newI_ok c n w own (L.length + 1) h.it.g.st.par h1 h2).mono ?_
  rintro e w' ⟨p, own', rfl, Y⟩
  refine ⟨p, own', rfl, ⟨⟨fun k q z e => ?_, h.it.g.sn Y.it.2.2 (fun x => x), fun x hx => ⟨(h.it.ex x hx).1.sn Y.it.2.2 (fun x => x), (h.it.ex x hx).2⟩⟩⟩⟩
  rcases Nat.lt_or_ge k L.length with hk | hk
  · rw [List.getElem?_append_left hk] at e
    exact (h.it.ids k q z e).sn Y.it.2.2 (fun x => x)
  · rw [List.getElem?_append_right hk] at e
    by_cases hz : k - L.length = 0
    · rw [hz] at e
      obtain ⟨rfl, rfl⟩ : p = q ∧ Im.new (pty c) n = z := by simpa using e
      have : k = L.length := by omega
      subst this
      exact Y.it.1
    · simp [hz] at e
theorem new14_no (h : Aside (IdW A w0 X L own w)) (c : Bool) (n : Int) (hn : n < 0 ∨ 2147483647 < n) : Calls Tryd.prog 8 #[.bool c, .int .i64 n] w fun e w' => e = .returned (.tuple #[.pointer none, .iface 82 (.pointer (some (A 1)))]) ∧ Aside (IdW A w0 X L own w') := by
  refine (newI_no c n w h.it.g.st.s hn).mono ?_
  rintro e w' ⟨rfl, k⟩
  exact ⟨rfl, IdW.quiet h k.it⟩
theorem next14 (h : Aside (IdW A w0 X L own w)) (j : Nat) (n : Int) (hj : L[j]? = some (p, x)) (hn : x.n = n) (hl : n ≤ 4294967295) : Calls Tryd.prog 11 #[ptr p] w fun e w' => e = .returned (.tuple #[.int .u32 n, .nilIface]) ∧ Aside (IdW A w0 X (L.set j (p, x.next)) own w') := by
  subst hn
  refine (next_ok (h.it.ids j p x hj) h.it.g.st.par hl).mono ?_
  rintro e w' ⟨rfl, Y⟩
  exact ⟨rfl, IdW.set h Y.it.1 Y.it.2⟩
theorem next14_no (h : Aside (IdW A w0 X L own w)) (j : Nat) (hj : L[j]? = some (p, x)) (hl : ¬ x.n ≤ 4294967295) : Calls Tryd.prog 11 #[ptr p] w fun e w' => e = .returned (.tuple #[.int .u32 0, .iface 82 (.pointer (some (A 31)))]) ∧ Aside (IdW A w0 X L own w') := by
  refine (next_no (h.it.ids j p x hj) h.it.g.st hl).mono ?_
  rintro e w' ⟨rfl, k⟩
  exact ⟨rfl, IdW.quiet h k.it⟩
theorem next14_nil (h : Aside (IdW A w0 X L own w)) : Calls Tryd.prog 11 #[.pointer none] w fun e w' => e = .returned (.tuple #[.int .u32 0, .iface 82 (.pointer (some (A 0)))]) ∧ Aside (IdW A w0 X L own w') := by
  refine (next_nil h.it.g.st.s).mono ?_
  rintro e w' ⟨rfl, k⟩
  exact ⟨rfl, IdW.quiet h k.it⟩
theorem sent14 (h : Aside (IdW A w0 X L own w)) (j : Nat) (id : Int) (hj : L[j]? = some (p, x)) (h0 : 0 ≤ id) (h1 : id ≤ 4294967295) : Calls Tryd.prog 16 #[ptr p, .int .u32 id] w fun e w' => ∃ v, e = .returned v ∧ Hid (Coded A v (x.sentE id)) ∧ Aside (IdW A w0 X (L.set j (p, x.sent id)) own w') := by
  refine (sent_at (h.it.ids j p x hj) h.it.g.st id h0 h1).mono ?_
  rintro e w' ⟨v, rfl, hv, Y⟩
  exact ⟨v, rfl, hv, IdW.set h Y.it.1 Y.it.2⟩
theorem hear14 (h : Aside (IdW A w0 X L own w)) (j : Nat) (id : Int) (hj : L[j]? = some (p, x)) (h0 : 0 ≤ id) (h1 : id ≤ 4294967295) : Calls Tryd.prog 18 #[ptr p, .int .u32 id] w fun e w' => ∃ v, e = .returned v ∧ Hid (Coded A v (x.hearE id)) ∧ Aside (IdW A w0 X (L.set j (p, x.hear id)) own w') := by
  refine (hear_at (h.it.ids j p x hj) h.it.g.st id h0 h1).mono ?_
  rintro e w' ⟨v, rfl, hv, Y⟩
  exact ⟨v, rfl, hv, IdW.set h Y.it.1 Y.it.2⟩
theorem sent14_ok (h : Aside (IdW A w0 X L own w)) (j : Nat) (id : Int) (hj : L[j]? = some (p, x)) (h0 : 0 ≤ id) (h1 : id ≤ 4294967295) (hE : x.sentE id = 0) : Calls Tryd.prog 16 #[ptr p, .int .u32 id] w fun e w' => e = .returned .nilIface ∧ Aside (IdW A w0 X (L.set j (p, x.rise id)) own w') := by
  refine (sent14 h j id hj h0 h1).mono ?_
  rintro e w' ⟨v, rfl, hv, Y⟩
  have hv := hv.out
  rw [hE] at hv
  have e2 : x.sent id = x.rise id := if_pos hE
  rw [e2] at Y
  exact ⟨by rw [hv.zero], Y⟩
theorem hear14_ok (h : Aside (IdW A w0 X L own w)) (j : Nat) (id : Int) (hj : L[j]? = some (p, x)) (h0 : 0 ≤ id) (h1 : id ≤ 4294967295) (hE : x.hearE id = 0) : Calls Tryd.prog 18 #[ptr p, .int .u32 id] w fun e w' => e = .returned .nilIface ∧ Aside (IdW A w0 X (L.set j (p, x.rise id)) own w') := by
  refine (hear14 h j id hj h0 h1).mono ?_
  rintro e w' ⟨v, rfl, hv, Y⟩
  have hv := hv.out
  rw [hE] at hv
  have e2 : x.hear id = x.rise id := if_pos hE
  rw [e2] at Y
  exact ⟨by rw [hv.zero], Y⟩
theorem set_same {L : List (Nat × Im)} {j : Nat} {p : Nat} {x : Im} (hj : L[j]? = some (p, x)) : L.set j (p, x) = L := by
  refine List.ext_getElem? fun k => ?_
  rw [List.getElem?_set]
  split
  · rename_i e
    subst e
    have := (List.getElem?_eq_some_iff.1 hj).1
    rw [if_pos this, hj]
  · rfl
/-- what a refusal is -/
def Refuse (A : Nat → Addr) (k : Int) (e : Ending) : Prop := ∃ a, e = .returned (.iface 82 (.pointer (some a))) ∧ Hid (Coded A (.iface 82 (.pointer (some a))) k)
theorem sent14_no (h : Aside (IdW A w0 X L own w)) (j : Nat) (id k : Int) (hj : L[j]? = some (p, x)) (h0 : 0 ≤ id) (h1 : id ≤ 4294967295) (hE : x.sentE id = k) (hk : k ≠ 0) : Calls Tryd.prog 16 #[ptr p, .int .u32 id] w fun e w' => Refuse A k e ∧ Aside (IdW A w0 X L own w') := by
  subst hE
  refine (sent14 h j id hj h0 h1).mono ?_
  rintro e w' ⟨v, rfl, hv, Y⟩
  have e2 : x.sent id = x := if_neg hk
  rw [e2, set_same hj] at Y
  obtain ⟨a, rfl⟩ := hv.out.pos hk
  exact ⟨⟨a, rfl, hv⟩, Y⟩
theorem hear14_no (h : Aside (IdW A w0 X L own w)) (j : Nat) (id k : Int) (hj : L[j]? = some (p, x)) (h0 : 0 ≤ id) (h1 : id ≤ 4294967295) (hE : x.hearE id = k) (hk : k ≠ 0) : Calls Tryd.prog 18 #[ptr p, .int .u32 id] w fun e w' => Refuse A k e ∧ Aside (IdW A w0 X L own w') := by
  subst hE
  refine (hear14 h j id hj h0 h1).mono ?_
  rintro e w' ⟨v, rfl, hv, Y⟩
  have e2 : x.hear id = x := if_neg hk
  rw [e2, set_same hj] at Y
  obtain ⟨a, rfl⟩ := hv.out.pos hk
  exact ⟨⟨a, rfl, hv⟩, Y⟩
theorem mine14 (h : Aside (IdW A w0 X L own w)) (j : Nat) (id : Int) (b : Bool) (hj : L[j]? = some (p, x)) (h0 : 0 ≤ id) (hb : x.mine id = b) : Calls Tryd.prog 21 #[ptr p, .int .u32 id] w fun e w' => e = .returned (.bool b) ∧ Aside (IdW A w0 X L own w') := by
  subst hb
  refine (mine_k (h.it.ids j p x hj) id h0).mono ?_
  rintro e w' ⟨rfl, k⟩
  exact ⟨rfl, IdW.quiet h k.it⟩
theorem known14 (h : Aside (IdW A w0 X L own w)) (j : Nat) (id : Int) (b : Bool) (hj : L[j]? = some (p, x)) (h0 : 0 ≤ id) (hb : x.known id = b) : Calls Tryd.prog 19 #[ptr p, .int .u32 id] w fun e w' => e = .returned (.bool b) ∧ Aside (IdW A w0 X L own w') := by
  subst hb
  refine (known_k (h.it.ids j p x hj) id h0).mono ?_
  rintro e w' ⟨rfl, k⟩
  exact ⟨rfl, IdW.quiet h k.it⟩
theorem left14 (h : Aside (IdW A w0 X L own w)) (j : Nat) (n : Int) (hj : L[j]? = some (p, x)) (hb : x.left = n) : Calls Tryd.prog 10 #[ptr p] w fun e w' => e = .returned (.int .i64 n) ∧ Aside (IdW A w0 X L own w') := by
  subst hb
  refine (left_k (h.it.ids j p x hj) h.it.g.st.par).mono ?_
  rintro e w' ⟨rfl, k⟩
  exact ⟨rfl, IdW.quiet h k.it⟩
theorem marks14 (h : Aside (IdW A w0 X L own w)) (j : Nat) (a b : Int) (hj : L[j]? = some (p, x)) (ha : x.mark x.o = a) (hb : x.mark (1 - x.o) = b) : Calls Tryd.prog 23 #[ptr p] w fun e w' => e = .returned (.tuple #[.int .u32 a, .int .u32 b]) ∧ Aside (IdW A w0 X L own w') := by
  subst ha hb
  refine (marks_k (h.it.ids j p x hj)).mono ?_
  rintro e w' ⟨rfl, k⟩
  exact ⟨rfl, IdW.quiet h k.it⟩
theorem code14 (h : Aside (IdW A w0 X L own w)) {v : Value} {k : Int} (hv : Hid (Coded A v k)) : Calls Tryd.prog 9 #[v] w fun e w' => e = .returned (.int .i64 k) ∧ w' = w := code_of (A := A) h.it.g.st.s hv.out

set_option maxRecDepth 20000 in
set_option maxHeartbeats 2000000 in
theorem fixed14 (hs : St14 A w) : Calls Tryd.prog 12 #[] w fun e w' => e = .returned (.bool true) ∧ Aside (Below w.heap.size w w') := by
  have G0 := IdW.start hs
  clear hs
  have N := Aside.mk (new14 G0 true 0 (by decide) (by decide))
  go_enter Tryd.func12, Tryd.ntmps12
  go_upto_region 4 with (first | (go_at_call 8; refine N.it.mono ?_; rintro e w1 ⟨p, own1, rfl, P1⟩) | fail)
  go_upto_region 5 with (first | (go_at_call 11; refine (next14 P1 0 1 rfl rfl (by decide)).mono ?_; rintro e w2 ⟨rfl, P2⟩) | fail)
  go_upto_region 6 with (first | (go_at_call 11; refine (next14 P2 0 3 rfl rfl (by decide)).mono ?_; rintro e w3 ⟨rfl, P3⟩) | fail)
  go_upto_region 8 with (first
    | (go_at_call 16; refine (sent14_ok P3 0 3 rfl (by decide) (by decide) (by decide)).mono ?_; rintro e w4 ⟨rfl, P4⟩)
    | (go_at_call 18; refine (hear14_ok P4 0 4 rfl (by decide) (by decide) (by decide)).mono ?_; rintro e w5 ⟨rfl, P5⟩)
    | fail)
  go_upto_region 9 with (first | (go_at_call 23; refine (marks14 P5 0 3 4 rfl rfl rfl).mono ?_; rintro e w6 ⟨rfl, P6⟩) | fail)
  go_wp2_with (first
    | (go_at_call 19; refine (known14 P8 0 5 false rfl (by decide) (by decide)).mono ?_; rintro e w9 ⟨rfl, P9⟩)
    | (go_at_call 19; refine (known14 P7 0 2 true rfl (by decide) (by decide)).mono ?_; rintro e w8 ⟨rfl, P8⟩)
    | (go_at_call 19; refine (known14 P6 0 1 true rfl (by decide) (by decide)).mono ?_; rintro e w7 ⟨rfl, P7⟩)
    | (go_at_call 18; refine (hear14_no P9 0 4 19 rfl (by decide) (by decide) (by decide) (by decide)).mono ?_; rintro e wa ⟨⟨a, rfl, hv⟩, Pa⟩)
    | (go_at_call 9; refine (code14 Pa hv).mono ?_; rintro e w' ⟨rfl, rfl⟩)
    | (go_at_call 10; refine (left14 Pa 0 2147483646 rfl (by decide)).mono ?_; rintro e wb ⟨rfl, Pb⟩)
    | fail)
  go_ret
  exact ⟨rfl, ⟨IdW.bel Pb⟩⟩
end
end Go.Proofs.YthfedcebbnlmaaaDoor
