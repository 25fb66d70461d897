/-
  culvertlaw15.TableNil
-/
import Derived.Test.YtbdnggkfpkfcoaaDoorLwA
import Derived.Test.YtbdnggkfpkfcoaaDoorTbFnl
namespace Go.Proofs.YtbdnggkfpkfcoaaDoor
open Go.RowKit Go.Shelf Tbint
attribute [local go_sem] Oper.semAt_some

theorem ownFrom_keeps15 {β : Type} (S : Nat → Prop) (w : World) : OwnFrom (β := β) w.heap.size (fun _ W => Keeps S w W) := fun _ _ _ _ hs hg hr => keeps_grown hs hg (fun r e => (hr r e).1)
theorem belowK15 {B : Nat} : ∀ (W : World) (l : Nat) (o o' : Obj), B ≤ l → W.heap[l]? = some o → o.isCells = false → o.isWalk = false → Below B W (W.putObj l o') :=
  fun W l o o' hl _ _ _ => ⟨rfl, rfl, rfl, by simp [World.putObj], fun k hk => World.putObj_heap_other (by omega)⟩

set_option maxRecDepth 8000 in
set_option maxHeartbeats 2000000 in
theorem tableNil_walk {A : Nat → Addr} (a0 a1 : Int) (w : World) (hs : Sents 148 codeVars A w) (h0 : 0 ≤ a0) (h1 : a0 ≤ 4294967295) :
    Calls Tryd.prog 7 #[.int .u32 a0, .int .i64 a1] w fun e w' => e = .returned (.bool true) ∧ Below w.heap.size w w' := by
  obtain ⟨k, rfl⟩ : ∃ k : Nat, a0 = k := ⟨a0.toNat, by omega⟩
  have hk : k ≤ 4294967295 := by omega
  obtain ⟨W0, hW0⟩ : ∃ W0, W0 = w.alloc (.cells #[.bool false] 4) := ⟨_, rfl⟩
  have K0 : Aside (Keeps Nowhere w W0) := ⟨by rw [hW0]; exact (Keeps.refl _ _).alloc _⟩
  have C0 : Aside (Cells W0 w.heap.size 4 [.bool false]) := ⟨by rw [hW0]; exact Cells.new w _ _⟩
  have HS := Aside.mk hs
  have WK := Aside.mk (wakes15 (hs.later K0.it.bel))
  clear hs h0 h1
  refine (callsIn_wide (n := 3)).1 ?_
  refine callsIn_of_wp_marks Tryd.func7 rfl trivial ?_ rfl
  simp only [Tryd.ntmps7, List.size_toArray, List.length_cons, List.length_nil, Nat.reduceAdd, Nat.reduceSub, Array.replicate_succ, Array.replicate_zero, List.push_toArray, List.append_toArray, List.nil_append, List.cons_append]
  gi_wp2_with fail
  rw [← hW0]
  clear hW0
  refine ⟨trivial, ?_⟩
  refine (callsIn_wide.2 WK.it).mono ?_
  rintro e w1 ⟨rfl, K1⟩
  gi_wp2_with fail
  refine ⟨trivial, ?_⟩
  refine (callsIn_wide.2 (Tbint.get_nil w1 hk)).mono ?_
  rintro e w2 ⟨rfl, rfl⟩
  gi_wp2_with fail
  refine ⟨trivial, ?_⟩
  refine (callsIn_wide.2 (Tbint.drop_nil w2 hk)).mono ?_
  rintro e w3 ⟨rfl, rfl⟩
  gi_wp2_with fail
  refine ⟨trivial, ?_⟩
  refine (callsIn_wide.2 (Tbint.all_nil w3)).mono ?_
  rintro e w5 ⟨bi, bs, rfl, W5, K5⟩
  have nn := walk_not_nil w5 bi bs
  gi_wp2_with fail
  obtain ⟨B, hB, hBk⟩ := W5.it.kept 2 (by decide) (Nat.zero_le _)
  refine wpIn_rangeFunc_ownF rfl (by decide) (gf := 51) (lb := #[ptr bi, ptr bs]) rfl trivial (enters_of Tryd.func51 (by kernel_rfl) rfl)
    hB kept_t (kept_b (fun k hk => (hBk k hk).2)) (Below.refl _ _) (fun _ => rfl) (fun _ W => Keeps Nowhere w5 W) (fun _ _ _ => False) (ownFrom_keeps15 _ _) (fun _ _ _ _ _ h _ _ => h) (Keeps.refl _ _) ?a1 ?assign ?body ?done ?stop
  case assign =>
    intro l x W K hK
    gi_wp2
    exact hK
  case body =>
    intro l pre x W _ hlt
    exact absurd hlt (by simp)
  case stop =>
    intro D c pre W _ _ h
    exact h.elim
  case done =>
    rintro D xs W hD hxs hI hK
    have KW := Aside.mk (((K1.it.trans K5.it).trans hI))
    have hDl : D < W.heap.size := (Array.getElem?_eq_some_iff.1 hK).1
    have HD := Aside.mk (And.intro hK hD)
    obtain ⟨W1, hW1⟩ : ∃ W1, W1 = W.alloc (.cells #[.bool false] 4) := ⟨_, rfl⟩
    have KA : Aside (Keeps Nowhere W W1) := ⟨by rw [hW1]; exact (Keeps.refl _ _).alloc _⟩
    have CA : Aside (Cells W1 W.heap.size 4 [.bool false]) := ⟨by rw [hW1]; exact Cells.new W _ _⟩
    have CNT := Aside.mk (Tcnl.count_of (w := W1) (.pointer none) W.heap.size [] (by decide) (fun _ => False) (fun _ h => h.elim) (fun _ => true) (fun _ _ => True) (fun _ _ _ _ _ => trivial) trivial (fun pre x W' _ _ h => absurd h (by simp)) (fun W' _ => Tbint.all_nil W'))
    have H5 := Aside.mk (K0.it.trans K1.it |>.trans K5.it |>.size)
    clear hK hI nn hB hBk hD hxs K5 W5
    gi_wp2_with fail
    rw [← hW1]
    clear hW1
    refine ⟨trivial, ?_⟩
    refine (callsIn_wide.2 CNT.it).mono ?_
    rintro e w6 ⟨rfl, _, K6⟩
    have ca := CA.it.later K6.it (fun x => x)
    have y0 : w6.cell? ⟨W.heap.size, 0, none⟩ = some (.bool false) := by rw [ca.cell]; rfl
    clear ca
    gi_wp2_with fail
    refine ⟨trivial, ?_⟩
    refine (callsIn_wide.2 (Tbint.len_nil w6)).mono ?_
    rintro e w7 ⟨rfl, rfl⟩
    gi_wp2_with fail
    refine ⟨trivial, ?_⟩
    refine (callsIn_wide.2 (Tbint.ids_nil w7)).mono ?_
    rintro e w8 ⟨g, cap, rfl, hg, R8, K8⟩
    gi_wp2_with fail
    refine ⟨trivial, ?_⟩
    refine (callsIn_wide.2 (Tbint.clear_nil w8)).mono ?_
    rintro e w9 ⟨rfl, rfl⟩
    gi_wp2_with fail
    refine ⟨trivial, ?_⟩
    refine (callsIn_wide.2 (count_none (.pointer none) w9)).mono ?_
    rintro e w10 ⟨rfl, K10⟩
    have KT := Aside.mk (((KW.it.trans KA.it).trans K6.it).trans (K8.it.trans K10.it))
    have S10 := Aside.mk (HS.it.later (K0.it.trans KT.it).bel)
    gi_wp2_with fail
    refine ⟨trivial, ?_⟩
    refine (callsIn_wide.2 (Tbint.put_nil (k := k) a1 w10 S10.it)).mono ?_
    rintro e w11 ⟨rfl, rfl⟩
    gi_wp2_with fail
    refine ⟨trivial, ?_⟩
    refine (callsIn_wide.2 (code_of S10.it (Coded.mk 0 1 (by decide) (by decide) rfl))).mono ?_
    rintro e w12 ⟨rfl, rfl⟩
    have g0 := C0.it.later KT.it (fun x => x)
    have e0 : w12.cell? ⟨w.heap.size, 0, none⟩ = some (.bool false) := by rw [g0.cell]; rfl
    have e1 := g0.frozen 0
    have HK2 : Aside (w12.heap[D]? = some (.deferred (some []))) := ⟨(((KA.it.trans K6.it).trans (K8.it.trans K10.it)).block D hDl (fun x => x)).trans HD.it.1⟩
    clear g0
    gi_wp2
    have hK' := (KeepsOthers.setCell w12 ⟨w.heap.size, 0, none⟩ (.bool true)).same D _ HK2.it rfl
    refine ⟨by simp, .inl ⟨_, _, rfl, run_takeDeferred hK', ?_⟩⟩
    have hc5 := cell_kept (World.cell?_setCell_same' w12 ⟨w.heap.size, 0, none⟩ (.bool true) (by rw [e0]; rfl)) (grownBy_putObj' _ D (.deferred none)) (fun r e => by cases e; exact ⟨_, hK', rfl⟩)
    refine ⟨.bool true, ?_, rfl, ?_⟩
    · simp [results, Tryd.f7, go_sem, hc5]
    · have h1 : Below w.heap.size w w12 := (K0.it.trans KT.it).bel
      have hDw : w.heap.size ≤ D := by have := H5.it; have := HD.it.2; omega
      exact (h1.setCell (p := ⟨w.heap.size, 0, none⟩) (Nat.le_refl _) _).trans (belowK15 _ D _ _ hDw hK' rfl rfl)
end Go.Proofs.YtbdnggkfpkfcoaaDoor
