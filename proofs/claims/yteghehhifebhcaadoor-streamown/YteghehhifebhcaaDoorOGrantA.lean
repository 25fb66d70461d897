/-
  package grant: what a Recv is in memory; mayBe, Threshold, New, told, Left, Unread, Owed, window, come, owe, grant; of nil
-/
import Derived.Test.YteghehhifebhcaaDoorOSn
import Derived.Test.YteghehhifebhcaaDoorONumArith
import Derived.Test.YteghehhifebhcaaDoorOCodedZ
import Derived.Handy
import Derived.Deep.Cut
import Derived.Deep.RegionHeldLaw
namespace Go.Proofs.YteghehhifebhcaaDoor
open Go.RowKit

section
variable {own own' : Nat → Nat} {i : Nat} {w w' : World} {p : Nat} {W l u o : Int} {I : Nat → Prop} {A : Nat → Addr}

def cntCells (l u o : Int) : List Value := [.int .i64 l, .int .i64 u, .int .i64 o]
/-- the counts of i's -/
structure CntO (own : Nat → Nat) (i : Nat) (w : World) (p : Nat) (W l u o : Int) : Prop where
  at_ : CellsO own i w p 125 (cntCells l u o)
  w1 : 1 ≤ W
  w2 : W ≤ 2147483647
  l1 : 0 ≤ l
  u1 : 0 ≤ u
  o1 : 0 ≤ o
  sum : l + u + o = W
theorem CntO.sn (h : CntO own i w p W l u o) (k : Sn I own w own' w') (hi : ¬ I i) : CntO own' i w' p W l u o := { h with at_ := h.at_.sn k hi }
theorem CntO.quiet (h : CntO own i w p W l u o) (k : Keeps Nowhere w w') : CntO own i w' p W l u o := { h with at_ := h.at_.quiet k }
theorem CntO.cell0 (h : CntO own i w p W l u o) : w.cell? ⟨p, 0, none⟩ = some (.int .i64 l) := by rw [h.at_.1.cell]; rfl
theorem CntO.cell1 (h : CntO own i w p W l u o) : w.cell? ⟨p, 1, none⟩ = some (.int .i64 u) := by rw [h.at_.1.cell]; rfl
theorem CntO.cell2 (h : CntO own i w p W l u o) : w.cell? ⟨p, 2, none⟩ = some (.int .i64 o) := by rw [h.at_.1.cell]; rfl

/-- the four sentinels that the package names -/
structure Sent8 (A : Nat → Addr) (w : World) : Prop where
  nil_ : w.cell? ⟨3, 0, none⟩ = some (.iface 156 (.pointer (some (A 0))))
  range : w.cell? ⟨0, 0, none⟩ = some (.iface 156 (.pointer (some (A 1))))
  under : w.cell? ⟨7, 0, none⟩ = some (.iface 156 (.pointer (some (A 4))))
  window : w.cell? ⟨17, 0, none⟩ = some (.iface 156 (.pointer (some (A 15))))
theorem SentO.s8 (h : SentO A w) : Sent8 A w :=
  ⟨h.cell 0 3 rfl, h.cell 1 0 rfl, h.cell 4 7 rfl, h.cell 15 17 rfl⟩
def fourVars : List Nat := [3, 0, 7, 17]
/-- where a sentinel of the code's i-th place lies among the four -/
def four (i : Nat) : Nat := if i = 0 then 0 else if i = 1 then 1 else if i = 4 then 2 else 3
theorem Sents.four (h : Sents 156 fourVars A w) : Sent8 (fun i => A (four i)) w :=
  ⟨h.cell 0 3 rfl, h.cell 1 0 rfl, h.cell 2 7 rfl, h.cell 3 17 rfl⟩
theorem Sent8.later (h : Sent8 A w) (hb : Below w.heap.size w w') : Sent8 A w' :=
  ⟨by rw [hb.cell (World.block_lt_of_cell? w _ h.nil_)]; exact h.nil_, by rw [hb.cell (World.block_lt_of_cell? w _ h.range)]; exact h.range, by rw [hb.cell (World.block_lt_of_cell? w _ h.under)]; exact h.under, by rw [hb.cell (World.block_lt_of_cell? w _ h.window)]; exact h.window⟩
/-- the ground with the four -/
structure OnF (A : Nat → Addr) (w0 : World) (own : Nat → Nat) (w : World) : Prop where
  g : Ground w0.heap.size w0 own w
  s : Sent8 A w0
theorem OnF.sents {w0 : World} (h : OnF A w0 own w) : Sent8 A w := h.s.later h.g.bel
theorem OnF.sn {w0 : World} (h : OnF A w0 own w) (s : Sn I own w own' w') (hi : ¬ I 0) : OnF A w0 own' w' := ⟨h.g.sn s hi, h.s⟩
theorem OnF.quiet {w0 : World} (h : OnF A w0 own w) (hk : Keeps Nowhere w w') : OnF A w0 own w' := ⟨h.g.quiet hk, h.s⟩
theorem OnF.start (hs : Sent8 A w) : OnF A w (fun _ => 0) w := ⟨⟨fun _ _ => rfl, Below.refl _ _, Nat.le_refl _⟩, hs⟩

theorem cnt_field0 (l u o : Int) (w : World) : Sem.run Tryd.prog (Instr.field 123 (.agg #[.int .i64 l, .int .i64 u, .int .i64 o]) 0) w = .ok (.int .i64 l) w := by kernel_rfl
theorem cnt_field1 (l u o : Int) (w : World) : Sem.run Tryd.prog (Instr.field 123 (.agg #[.int .i64 l, .int .i64 u, .int .i64 o]) 1) w = .ok (.int .i64 u) w := by kernel_rfl
theorem cnt_field2 (l u o : Int) (w : World) : Sem.run Tryd.prog (Instr.field 123 (.agg #[.int .i64 l, .int .i64 u, .int .i64 o]) 2) w = .ok (.int .i64 o) w := by kernel_rfl

theorem mayBe_yes (n : Int) (w : World) (h1 : 1 ≤ n) (h2 : n ≤ 2147483647) :
    Calls Tryd.prog 60 #[.int .i64 n] w fun e w' => e = .returned (.bool true) ∧ w' = w := by
  go_enter Tryd.func60, Tryd.ntmps60
  go_wp2
  go_ret
  exact ⟨rfl, rfl⟩
theorem mayBe_no (n : Int) (w : World) (h : n < 1 ∨ 2147483647 < n) :
    Calls Tryd.prog 60 #[.int .i64 n] w fun e w' => e = .returned (.bool false) ∧ w' = w := by
  rcases h with h | h
  · have h' : ¬ 1 ≤ n := by omega
    go_enter Tryd.func60, Tryd.ntmps60
    go_wp2
    go_ret
    exact ⟨rfl, rfl⟩
  · have h' : 1 ≤ n := by omega
    have h2 : ¬ n ≤ 2147483647 := by omega
    go_enter Tryd.func60, Tryd.ntmps60
    go_wp2
    go_ret
    exact ⟨rfl, rfl⟩
def thr (n : Int) : Int := if n < 1 then 0 else if 2147483647 < n then 0 else (n + 1) / 2
theorem thr_in {n : Int} (h1 : 1 ≤ n) (h2 : n ≤ 2147483647) : thr n = (n + 1) / 2 := by
  unfold thr
  rw [if_neg (by omega), if_neg (by omega)]
theorem thr_out {n : Int} (h : n < 1 ∨ 2147483647 < n) : thr n = 0 := by
  unfold thr
  split
  · rfl
  · rw [if_pos (by omega)]
theorem threshold_in (n : Int) (w : World) (h1 : 1 ≤ n) (h2 : n ≤ 2147483647) :
    Calls Tryd.prog 90 #[.int .i64 n] w fun e w' => e = .returned (.int .i64 ((n + 1) / 2)) ∧ w' = w := by
  have M := Aside.mk (mayBe_yes n w h1 h2)
  have e1 : (n + 1).tdiv 2 = (n + 1) / 2 := Int.tdiv_eq_ediv_of_nonneg (by omega)
  go_enter Tryd.func90, Tryd.ntmps90
  go_wp2_with (first | (go_at_call 60; refine M.it.mono ?_; rintro e w' ⟨rfl, rfl⟩) | fail)
  go_ret
  exact ⟨by first | rfl | rw [e1], rfl⟩
theorem threshold_out (n : Int) (w : World) (h : n < 1 ∨ 2147483647 < n) :
    Calls Tryd.prog 90 #[.int .i64 n] w fun e w' => e = .returned (.int .i64 0) ∧ w' = w := by
  have M := Aside.mk (mayBe_no n w h)
  go_enter Tryd.func90, Tryd.ntmps90
  go_wp2_with (first | (go_at_call 60; refine M.it.mono ?_; rintro e w' ⟨rfl, rfl⟩) | fail)
  go_ret
  exact ⟨rfl, rfl⟩
theorem threshold_any (n : Int) (w : World) :
    Calls Tryd.prog 90 #[.int .i64 n] w fun e w' => e = .returned (.int .i64 (thr n)) ∧ w' = w := by
  by_cases h : n < 1 ∨ 2147483647 < n
  · rw [thr_out h]; exact threshold_out n w h
  · rw [thr_in (by omega) (by omega)]; exact threshold_in n w (by omega) (by omega)

theorem newG_ok (n : Int) (w : World) (own : Nat → Nat) (i : Nat) (h1 : 1 ≤ n) (h2 : n ≤ 2147483647) :
    Calls Tryd.prog 32 #[.int .i64 n] w fun e w' => ∃ p own', e = .returned (.tuple #[ptr p, .nilIface]) ∧ Aside (CntO own' i w' p n n 0 0 ∧ w.heap.size ≤ p ∧ Sn (fun _ => False) own w own' w') := by
  have M := Aside.mk (mayBe_yes n w h1 h2)
  go_enter Tryd.func32, Tryd.ntmps32
  go_wp2_with (first | (go_at_call 60; refine M.it.mono ?_; rintro e w1 ⟨rfl, rfl⟩) | fail)
  go_ret2
  refine ⟨w1.heap.size, give own w1.heap.size i, rfl, ⟨⟨⟨?_, give_new (Nat.le_refl _)⟩, h1, h2, by omega, by omega, by omega, by omega⟩, Nat.le_refl _, Sn.quiet ?_ i⟩⟩
  · exact Cells.new w1 _ _
  · exact (Keeps.refl _ _).alloc _
theorem newG_no (n : Int) (w : World) (hs : Sent8 A w) (h : n < 1 ∨ 2147483647 < n) :
    Calls Tryd.prog 32 #[.int .i64 n] w fun e w' => e = .returned (.tuple #[.pointer none, .iface 156 (.pointer (some (A 1)))]) ∧ Aside (Keeps Nowhere w w') := by
  have hc := hs.range
  have M := Aside.mk (mayBe_no n w h)
  clear hs
  go_enter Tryd.func32, Tryd.ntmps32
  go_wp2_with (first | (go_at_call 60; refine M.it.mono ?_; rintro e w' ⟨rfl, rfl⟩) | fail)
  go_quiet (fail)
  go_wp2
  go_ret2
  exact ⟨rfl, ⟨(Keeps.refl _ _).drewN _⟩⟩
theorem told_at (h : CntO own i w p W l u o) : Calls Tryd.prog 74 #[ptr p] w fun e w' => e = .returned (.agg #[.int .i64 l, .int .i64 u, .int .i64 o]) ∧ Aside (Keeps Nowhere w w') := by
  obtain ⟨w1, hw1⟩ : ∃ w1, w1 = w.alloc (.cells #[.int .i64 0, .int .i64 0, .int .i64 0] 123) := ⟨_, rfl⟩
  have K : Keeps Nowhere w w1 := by rw [hw1]; exact (Keeps.refl _ _).alloc _
  have C : Cells w1 w.heap.size 123 [.int .i64 0, .int .i64 0, .int .i64 0] := by rw [hw1]; exact Cells.new w _ _
  have h' := h.quiet K
  have c0 := h'.cell0
  have c1 := h'.cell1
  have c2 := h'.cell2
  have f0 := C.frozen 0
  have f1 := C.frozen 1
  have f2 := C.frozen 2
  have d0 : w1.cell? ⟨w.heap.size, 0, none⟩ = some (.int .i64 0) := by rw [C.cell]; rfl
  have d1 : w1.cell? ⟨w.heap.size, 1, none⟩ = some (.int .i64 0) := by rw [C.cell]; rfl
  have d2 : w1.cell? ⟨w.heap.size, 2, none⟩ = some (.int .i64 0) := by rw [C.cell]; rfl
  have K' := Aside.mk K
  have C' := Aside.mk C
  clear h h' K C
  go_enter Tryd.func74, Tryd.ntmps74
  go_upto_region 1 with fail
  rw [← hw1]
  obtain ⟨q, hq⟩ : ∃ q, q = w.heap.size := ⟨_, rfl⟩
  have hq' := Aside.mk hq
  rw [← hq] at C' f0 f1 f2 d0 d1 d2 ⊢
  clear hw1 hq
  go_wp2
  obtain ⟨w3, hw3⟩ : ∃ w3, w3 = ((w1.setCell ⟨q, 0, none⟩ (.int .i64 l)).setCell ⟨q, 1, none⟩ (.int .i64 u)).setCell ⟨q, 2, none⟩ (.int .i64 o) := ⟨_, rfl⟩
  have C3 : Cells w3 q 123 [.int .i64 l, .int .i64 u, .int .i64 o] := by rw [hw3]; exact ((C'.it.setCell 0 _).setCell 1 _).setCell 2 _
  have no : ¬ q < w.heap.size := by rw [hq'.it]; exact Nat.lt_irrefl _
  have K3 : Keeps Nowhere w w3 := by rw [hw3]; exact ((K'.it.setCell _ _ (fun h => absurd h no)).setCell _ _ (fun h => absurd h no)).setCell _ _ (fun h => absurd h no)
  rw [← hw3]
  have b0 : w3.cell? ⟨q, 0, none⟩ = some (.int .i64 l) := by rw [C3.cell]; rfl
  have b1 : w3.cell? ⟨q, 1, none⟩ = some (.int .i64 u) := by rw [C3.cell]; rfl
  have b2 : w3.cell? ⟨q, 2, none⟩ = some (.int .i64 o) := by rw [C3.cell]; rfl
  clear hw3 C3
  refine bodyPost_ret (by simp [results, Tryd.results74, go_sem, b0, b1, b2]; try rfl) rfl ?_
  exact ⟨rfl, ⟨K3⟩⟩
theorem told_nil (w : World) : Calls Tryd.prog 74 #[.pointer none] w fun e w' => e = .returned (.agg #[.int .i64 0, .int .i64 0, .int .i64 0]) ∧ Aside (Keeps Nowhere w w') := by
  go_enter Tryd.func74, Tryd.ntmps74
  go_wp2
  go_returns
  exact ⟨rfl, ⟨Keeps.ofBelow (by go_grown)⟩⟩
set_option maxRecDepth 20000 in
theorem left_at (h : CntO own i w p W l u o) : Calls Tryd.prog 50 #[ptr p] w fun e w' => e = .returned (.int .i64 l) ∧ Aside (Keeps Nowhere w w') := by
  have T := Aside.mk (told_at h)
  clear h
  have F := cnt_field0 l u o
  go_enter Tryd.func50, Tryd.ntmps50
  go_wp2_with (first | (go_at_call 74; refine T.it.mono ?_; rintro e w' ⟨rfl, k⟩) | fail)
  go_ret
  exact ⟨rfl, k⟩
set_option maxRecDepth 20000 in
theorem owed_at (h : CntO own i w p W l u o) : Calls Tryd.prog 51 #[ptr p] w fun e w' => e = .returned (.int .i64 o) ∧ Aside (Keeps Nowhere w w') := by
  have T := Aside.mk (told_at h)
  clear h
  have F := cnt_field2 l u o
  go_enter Tryd.func51, Tryd.ntmps51
  go_wp2_with (first | (go_at_call 74; refine T.it.mono ?_; rintro e w' ⟨rfl, k⟩) | fail)
  go_ret
  exact ⟨rfl, k⟩
set_option maxRecDepth 20000 in
theorem left_nil (w : World) : Calls Tryd.prog 50 #[.pointer none] w fun e w' => e = .returned (.int .i64 0) ∧ Aside (Keeps Nowhere w w') := by
  have T := Aside.mk (told_nil w)
  have F := cnt_field0 0 0 0
  go_enter Tryd.func50, Tryd.ntmps50
  go_wp2_with (first | (go_at_call 74; refine T.it.mono ?_; rintro e w' ⟨rfl, k⟩) | fail)
  go_ret
  exact ⟨rfl, k⟩
set_option maxRecDepth 20000 in
theorem owed_nil (w : World) : Calls Tryd.prog 51 #[.pointer none] w fun e w' => e = .returned (.int .i64 0) ∧ Aside (Keeps Nowhere w w') := by
  have T := Aside.mk (told_nil w)
  have F := cnt_field2 0 0 0
  go_enter Tryd.func51, Tryd.ntmps51
  go_wp2_with (first | (go_at_call 74; refine T.it.mono ?_; rintro e w' ⟨rfl, k⟩) | fail)
  go_ret
  exact ⟨rfl, k⟩
theorem window_at (h : CntO own i w p W l u o) : Calls Tryd.prog 91 #[ptr p] w fun e w' => e = .returned (.int .i64 W) ∧ ∃ m, w' = w.drewN m := by
  have c0 := h.cell0
  have c1 := h.cell1
  have c2 := h.cell2
  have e0 := h.sum
  have hw := h.w2
  have h1 := h.l1
  have h2 := h.u1
  have h3 := h.o1
  clear h
  go_enter Tryd.func91, Tryd.ntmps91
  go_wp2
  go_quiet (fail)
  go_wp2
  go_ret
  exact ⟨rfl, _, rfl⟩
/-- what come, owe and grant leave: the same counts, moved -/
theorem CntO.put (h : CntO own i w p W l u o) {l' u' o' : Int} (hl : 0 ≤ l') (hu : 0 ≤ u') (ho : 0 ≤ o') (hs : l' + u' + o' = W) (hw' : Cells w' p 125 (cntCells l' u' o')) (hk : Keeps (fun k => k = p) w w') :
    CntO own i w' p W l' u' o' ∧ Sn (fun k => k = i) own w own w' :=
  ⟨⟨⟨hw', h.at_.2⟩, h.w1, h.w2, hl, hu, ho, hs⟩, fun _ _ => rfl, hk.mono (fun k e _ => by rw [e]; exact h.at_.2)⟩
theorem come_at (h : CntO own i w p W l u o) (n : Int) (h0 : 0 ≤ n) (h1 : n ≤ l) :
    Calls Tryd.prog 77 #[ptr p, .int .i64 n] w fun e w' => e = .returned (.tuple #[]) ∧ Aside (CntO own i w' p W (l - n) (u + n) o ∧ Sn (fun k => k = i) own w own w') := by
  have c0 := h.cell0
  have c1 := h.cell1
  have e0 := h.sum
  have hw := h.w2
  have h2 := h.u1
  have h3 := h.o1
  have f0 := h.at_.1.frozen 0
  have f1 := h.at_.1.frozen 1
  have H := Aside.mk h
  clear h
  go_enter Tryd.func77, Tryd.ntmps77
  go_wp2
  go_returns
  refine ⟨rfl, ⟨H.it.put (by omega) (by omega) (by omega) (by omega) ((H.it.at_.1.setCell 0 _).setCell 1 _) (((Keeps.refl (fun k => k = p) _).setCell _ _ (fun _ => rfl)).setCell _ _ (fun _ => rfl))⟩⟩
theorem owe_at (h : CntO own i w p W l u o) (n : Int) (h0 : 0 ≤ n) (h1 : n ≤ u) :
    Calls Tryd.prog 89 #[ptr p, .int .i64 n] w fun e w' => e = .returned (.tuple #[]) ∧ Aside (CntO own i w' p W l (u - n) (o + n) ∧ Sn (fun k => k = i) own w own w') := by
  have c1 := h.cell1
  have c2 := h.cell2
  have e0 := h.sum
  have hw := h.w2
  have h2 := h.l1
  have h3 := h.o1
  have f0 := h.at_.1.frozen 1
  have f1 := h.at_.1.frozen 2
  have H := Aside.mk h
  clear h
  go_enter Tryd.func89, Tryd.ntmps89
  go_wp2
  go_returns
  refine ⟨rfl, ⟨H.it.put (by omega) (by omega) (by omega) (by omega) ((H.it.at_.1.setCell 1 _).setCell 2 _) (((Keeps.refl (fun k => k = p) _).setCell _ _ (fun _ => rfl)).setCell _ _ (fun _ => rfl))⟩⟩
theorem grant_at (h : CntO own i w p W l u o) :
    Calls Tryd.prog 92 #[ptr p] w fun e w' => e = .returned (.int .i64 o) ∧ Aside (CntO own i w' p W (l + o) u 0 ∧ Sn (fun k => k = i) own w own w') := by
  have c0 := h.cell0
  have c2 := h.cell2
  have e0 := h.sum
  have hw := h.w2
  have h2 := h.l1
  have h3 := h.o1
  have h4 := h.u1
  have f0 := h.at_.1.frozen 0
  have f1 := h.at_.1.frozen 2
  have H := Aside.mk h
  clear h
  go_enter Tryd.func92, Tryd.ntmps92
  go_wp2
  go_ret
  refine ⟨rfl, ⟨H.it.put (by omega) (by omega) (by omega) (by omega) ((H.it.at_.1.setCell 0 _).setCell 2 _) (((Keeps.refl (fun k => k = p) _).setCell _ _ (fun _ => rfl)).setCell _ _ (fun _ => rfl))⟩⟩
end
end Go.Proofs.YteghehhifebhcaaDoor
