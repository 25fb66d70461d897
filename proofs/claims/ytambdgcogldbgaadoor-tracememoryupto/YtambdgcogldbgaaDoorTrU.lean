/-
  the document's history (culvertref24): its rows as they are read; Of
-/
import Derived.Test.YtambdgcogldbgaaDoorTrK
import Derived.Test.YtambdgcogldbgaaDoorOwnL
namespace Go.Proofs.YtambdgcogldbgaaDoor
open Go.RowKit Go.Maps

/-- a row of the document's: its key, its bytes' slice, what became of it -/
structure Dr where
  k : Int
  u : Value
  r : Rc
abbrev Ds := List Dr
def mdl (U : Ds) : Hs := U.map fun d => (d.k, d.r)
def dget : Ds → Int → Option Dr
  | [], _ => none
  | d :: U, z => if d.k = z then some d else dget U z
def dset : Ds → Dr → Ds
  | [], e => [e]
  | d :: U, e => if d.k < e.k then d :: dset U e else if d.k = e.k then e :: U else e :: d :: U
abbrev dr0 (k : Int) : Dr := ⟨k, .slice none 0 0, rc0⟩
def dgot (U : Ds) (k : Int) : Dr := (dget U k).getD (dr0 k)
theorem mdl_get (U : Ds) (k : Int) : tget (mdl U) k = (dget U k).map (·.r) := by
  induction U with
  | nil => rfl
  | cons d U ih =>
    simp only [mdl, List.map_cons, tget, dget]
    split
    · rfl
    · exact ih
theorem mdl_got (U : Ds) (k : Int) : (dgot U k).r = got (mdl U) k := by
  unfold dgot got
  rw [mdl_get]
  cases dget U k <;> rfl
theorem dget_key {U : Ds} {k : Int} {d : Dr} (h : dget U k = some d) : d.k = k ∧ d ∈ U := by
  induction U with
  | nil => cases h
  | cons e U ih =>
    unfold dget at h
    split at h
    · rename_i he; injection h with h; subst h; exact ⟨he, .head _⟩
    · exact ⟨(ih h).1, .tail _ (ih h).2⟩
theorem dgot_k (U : Ds) (k : Int) : (dgot U k).k = k := by
  unfold dgot
  cases h : dget U k with
  | none => rfl
  | some d => exact (dget_key h).1
theorem mdl_set (U : Ds) (d : Dr) : mdl (dset U d) = tset (mdl U) d.k d.r := by
  induction U with
  | nil => rfl
  | cons e U ih =>
    unfold dset
    simp only [mdl, List.map_cons, tset]
    split
    · simp only [List.map_cons, List.cons.injEq, true_and]; exact ih
    · split <;> rfl
theorem mdl_len (U : Ds) : (mdl U).length = U.length := by simp [mdl]
theorem dset_mem {U : Ds} {d x : Dr} (h : x ∈ dset U d) : x = d ∨ x ∈ U := by
  induction U with
  | nil => simp [dset] at h; exact .inl h
  | cons y U ih =>
    unfold dset at h
    split at h
    · cases h with
      | head => exact .inr (.head _)
      | tail _ h =>
        rcases ih h with h | h
        · exact .inl h
        · exact .inr (.tail _ h)
    · split at h
      · cases h with
        | head => exact .inl rfl
        | tail _ h => exact .inr (.tail _ h)
      · cases h with
        | head => exact .inl rfl
        | tail _ h => exact .inr h
theorem dset_low {P : Ds} {e : Dr} (h : ∀ x ∈ P, x.k < e.k) (Q : Ds) : dset (P ++ Q) e = P ++ dset Q e := by
  induction P with
  | nil => rfl
  | cons x P ih => rw [List.cons_append, dset, if_pos (h x (.head _)), ih (fun y hy => h y (.tail _ hy)), List.cons_append]
theorem dset_high {P : Ds} {e : Dr} (h : ∃ x ∈ P, e.k ≤ x.k) (Q : Ds) : dset (P ++ Q) e = dset P e ++ Q := by
  induction P with
  | nil => obtain ⟨x, hx, _⟩ := h; cases hx
  | cons x P ih =>
    rw [List.cons_append]
    unfold dset
    split
    · obtain ⟨y, hy, hk⟩ := h
      cases hy with
      | head => omega
      | tail _ hy => rw [ih ⟨y, hy, hk⟩]; rfl
    · split <;> rfl
theorem dset_len (U : Ds) (e : Dr) : (dset U e).length ≤ U.length + 1 := by
  induction U with
  | nil => simp [dset]
  | cons x U ih =>
    unfold dset
    split
    · simp only [List.length_cons]; omega
    · split <;> simp

abbrev fl5 (d : Dr) : List Value := [.int .i64 d.k, d.u, .int .i64 ((d.r.rd : Nat) : Int), .bool d.r.cl, .bool d.r.en]
def flat24 (U : Ds) : List Value := U.flatMap fl5
theorem flat24_snoc (U : Ds) (d : Dr) : flat24 (U ++ [d]) = flat24 U ++ fl5 d := by simp [flat24, List.flatMap_append]
theorem flat24_at (U : Ds) : ∀ (j : Nat) (d : Dr), U[j]? = some d → ∀ (k : Nat) (u : Value), (fl5 d)[k]? = some u → (flat24 U)[j * 5 + k]? = some u := by
  induction U with
  | nil => intro j x h; simp at h
  | cons y L ih =>
    intro j x h k u hu
    have hk : k < 5 := by have := (List.getElem?_eq_some_iff.1 hu).1; simpa [fl5] using this
    have e : flat24 (y :: L) = fl5 y ++ flat24 L := rfl
    rw [e]
    cases j with
    | zero =>
      simp only [List.getElem?_cons_zero, Option.some.injEq] at h
      subst h
      rw [List.getElem?_append_left (by simp [fl5]; omega)]
      simpa using hu
    | succ j =>
      simp only [List.getElem?_cons_succ] at h
      rw [List.getElem?_append_right (by simp [fl5]; omega)]
      have : (j + 1) * 5 + k - (fl5 y).length = j * 5 + k := by simp [fl5]; omega
      rw [this]
      exact ih j x h k u hu
variable {w w' W : World} {own own' : Nat → Nat} {v : Value} {U : Ds} {I : Nat → Prop} {k : Int} {d : Dr}
/-- the cells of a row -/
def RowAt5 (w : World) (g o : Nat) (d : Dr) : Prop := w.cell? ⟨g, o, none⟩ = some (.int .i64 d.k) ∧ w.cell? ⟨g, o + 1, none⟩ = some d.u ∧ w.cell? ⟨g, o + 2, none⟩ = some (.int .i64 ((d.r.rd : Nat) : Int)) ∧ w.cell? ⟨g, o + 3, none⟩ = some (.bool d.r.cl) ∧ w.cell? ⟨g, o + 4, none⟩ = some (.bool d.r.en)
theorem RowAt5.later {S : Nat → Prop} {g o : Nat} (h : RowAt5 w g o d) (hk : Keeps S w w') (hn : ¬ S g) : RowAt5 w' g o d := by
  obtain ⟨h0, h1, h2, h3, h4⟩ := h
  have hb := hk.block g (World.block_lt_of_cell? w _ h0) hn
  exact ⟨by rw [World.cell?_of_block (w := w) hb]; exact h0, by rw [World.cell?_of_block (w := w) hb]; exact h1, by rw [World.cell?_of_block (w := w) hb]; exact h2, by rw [World.cell?_of_block (w := w) hb]; exact h3, by rw [World.cell?_of_block (w := w) hb]; exact h4⟩
/-- the document's rows: owner 9's, whom no call changes -/
structure RdD (own : Nat → Nat) (w : World) (v : Value) (U : Ds) : Prop where
  s : ∃ a c, v = .slice a U.length c ∧ U.length ≤ c ∧ ∀ j d, U[j]? = some d → ∃ g, a = some ⟨g, 0, none⟩ ∧ own g = 9 ∧ RowAt5 w g (j * 5) d
  b : ∀ d ∈ U, RdO own 9 w d.u d.r.wr
theorem RdD.sn (h : RdD own w v U) (s : Sn I own w own' w') (hi : ¬ I 9) : RdD own' w' v U := by
  obtain ⟨a, c, e, hl, hc⟩ := h.s
  refine ⟨⟨a, c, e, hl, fun j x hj => ?_⟩, fun d hd => (h.b d hd).sn s hi⟩
  obtain ⟨g, ea, ho, hr⟩ := hc j x hj
  have hg := World.block_lt_of_cell? w _ hr.1
  exact ⟨g, ea, (s.agree g hg).trans ho, hr.later s.keeps (fun e => hi (by rw [← ho]; exact e))⟩
theorem RdD.quiet (h : RdD own w v U) (hk : Keeps Nowhere w w') : RdD own w' v U := h.sn (I := fun _ => False) (Sn.same hk) (fun x => x)
theorem RdD.step (h : RdD own w v U) (hk : Keeps Nowhere w w') (r : Nat) : RdD (give own w.heap.size r) w' v U := h.sn (I := fun _ => False) (Sn.quiet hk r) (fun x => x)
theorem RdD.nil (own : Nat → Nat) (w : World) : RdD own w (.slice none 0 0) [] := ⟨⟨none, 0, rfl, Nat.le_refl _, fun j x h => by simp at h⟩, fun d hd => by cases hd⟩
theorem RdO.nil9 (own : Nat → Nat) (w : World) : RdO own 9 w (.slice none 0 0) [] := ⟨(RowB.nil own 0 _).rd, fun g hg => by simp [Value.ownBlock] at hg⟩
theorem RdD.got (h : RdD own w v U) (k : Int) : RdO own 9 w (dgot U k).u (dgot U k).r.wr := by
  unfold dgot
  cases e : dget U k with
  | none => exact RdO.nil9 own w
  | some d => exact h.b d (dget_key e).2
theorem ddrop_cons {j : Nat} {x : Dr} (hx : U[j]? = some x) : U.drop j = x :: U.drop (j + 1) := by
  have hjl : j < U.length := (List.getElem?_eq_some_iff.1 hx).1
  rw [List.drop_eq_getElem_cons hjl]
  rw [List.getElem?_eq_getElem hjl] at hx
  simp only [Option.some.injEq] at hx
  rw [hx]
theorem dtake_snoc {j : Nat} {x : Dr} (hx : U[j]? = some x) : U.take (j + 1) = U.take j ++ [x] := by rw [List.take_add_one, hx]; rfl
theorem RdO.sl {j : Nat} {ns : List Int} {v : Value} (h : RdO own j w v ns) : ∃ q c, v = .slice q ns.length c := h.1.shape
abbrev rowV (d : Dr) : Value := .agg #[.int .i64 d.k, d.u, .int .i64 ((d.r.rd : Nat) : Int), .bool d.r.cl, .bool d.r.en]
set_option maxHeartbeats 1000000 in
theorem dOf (h : RdD own w v U) (hl : U.length ≤ 2147483648) (z : Int) :
    Calls Tryd.prog 21 #[.agg #[v], .int .i64 z] w fun e w' => e = .returned (.tuple #[rowV (dgot U z), .bool (dget U z).isSome]) ∧ Aside (Keeps Nowhere w w') := by
  have HB9 := Aside.mk h.b
  obtain ⟨a, c, rfl, hlc, hc⟩ := h.s
  obtain ⟨n, hn⟩ : ∃ n, U.length = n := ⟨_, rfl⟩
  have HN := Aside.mk hn
  rw [hn] at hlc hl ⊢
  obtain ⟨bx, hbx⟩ : ∃ bx, w.heap.size = bx := ⟨_, rfl⟩
  obtain ⟨W1, hW1⟩ : ∃ W1, ((w.alloc (.cells #[.slice a n c] 28)).alloc (.cells #[.int .i64 0, .slice none 0 0, .int .i64 0, .bool false, .bool false] 45)) = W1 := ⟨_, rfl⟩
  have K1 : Aside (Keeps Nowhere w W1) := ⟨by rw [← hW1]; exact ((Keeps.refl _ _).alloc _).alloc _⟩
  have C1 : Aside (Cells W1 bx 28 [.slice a n c]) := ⟨by rw [← hW1, ← hbx]; exact (Cells.new w _ _).later (S := Nowhere) ((Keeps.refl _ _).alloc _) (fun x => x)⟩
  have C2 : Aside (Cells W1 (bx + 1) 45 [.int .i64 0, .slice none 0 0, .int .i64 0, .bool false, .bool false]) := ⟨by
    have h := Cells.new (w.alloc (.cells #[.slice a n c] 28)) 45 [.int .i64 0, .slice none 0 0, .int .i64 0, .bool false, .bool false]
    rw [World.size_alloc, hbx] at h
    rw [← hW1]; exact h⟩
  have HC := Aside.mk hc
  have HB := Aside.mk hbx
  have d1 : W1.cell? ⟨bx, 0, none⟩ = some (.slice a n c) := by rw [C1.it.cell]; rfl
  have g0 : W1.cell? ⟨bx + 1, 0, none⟩ = some (.int .i64 0) := by rw [C2.it.cell]; rfl
  have g1 : W1.cell? ⟨bx + 1, 1, none⟩ = some (.slice none 0 0) := by rw [C2.it.cell]; rfl
  have g2 : W1.cell? ⟨bx + 1, 2, none⟩ = some (.int .i64 0) := by rw [C2.it.cell]; rfl
  have g3 : W1.cell? ⟨bx + 1, 3, none⟩ = some (.bool false) := by rw [C2.it.cell]; rfl
  have g4 : W1.cell? ⟨bx + 1, 4, none⟩ = some (.bool false) := by rw [C2.it.cell]; rfl
  have f0 := C2.it.frozen 0
  have f1 := C2.it.frozen 1
  have f2 := C2.it.frozen 2
  have f3 := C2.it.frozen 3
  have f4 := C2.it.frozen 4
  have KF : Aside (∀ u0 u1 u2 u3 u4 : Value, Keeps Nowhere w (((((W1.setCell ⟨bx + 1, 0, none⟩ u0).setCell ⟨bx + 1, 1, none⟩ u1).setCell ⟨bx + 1, 2, none⟩ u2).setCell ⟨bx + 1, 3, none⟩ u3).setCell ⟨bx + 1, 4, none⟩ u4)) := ⟨fun u0 u1 u2 u3 u4 => K1.it.next (S' := fun k => k = bx + 1) ((((((Keeps.refl (fun k => k = bx + 1) W1).setCell ⟨bx + 1, 0, none⟩ _ (fun _ => rfl)).setCell ⟨bx + 1, 1, none⟩ _ (fun _ => rfl)).setCell ⟨bx + 1, 2, none⟩ _ (fun _ => rfl)).setCell ⟨bx + 1, 3, none⟩ _ (fun _ => rfl)).setCell ⟨bx + 1, 4, none⟩ _ (fun _ => rfl)) (fun k e hlt => by have := HB.it; omega)⟩
  clear hc hn
  go_enter Tryd.func21, Tryd.ntmps21
  go_upto_region 2 with fail
  clear hW1 hbx
  go_loopw [6] (fun v wr => ∃ j : Nat, v = .int .i64 j ∧ j ≤ n ∧ wr = W1 ∧ dget (U.drop j) z = dget U z) (fun v _ => n - natOfT v)
  case atStart => exact ⟨0, rfl, Nat.zero_le _, rfl, rfl⟩
  case round =>
    obtain ⟨j, rfl, hj, hwr, ht⟩ := hrel
    subst hwr
    rcases Nat.eq_or_lt_of_le hj with rfl | hlt
    · rw [List.drop_eq_nil_of_le (by rw [HN.it]; exact Nat.le_refl _)] at ht
      have HT := Aside.mk (show dget U z = none by rw [← ht]; simp [dget])
      clear ht
      go_wp2_with fail
      have x3 := ((((C2.it.setCell 0 (.int .i64 z)).setCell 1 (.slice none 0 0)).setCell 2 (.int .i64 0)).setCell 3 (.bool false)).setCell 4 (.bool false)
      have y0 := x3.cell 0
      have y1 := x3.cell 1
      have y2 := x3.cell 2
      have y3 := x3.cell 3
      have y4 := x3.cell 4
      refine bodyPost_ret (v := .tuple #[.agg #[.int .i64 z, .slice none 0 0, .int .i64 0, .bool false, .bool false], .bool false]) (by simp [results, Tryd.f21, go_sem, y0, y1, y2, y3, y4]) rfl ?_
      unfold dgot
      rw [HT.it]
      exact ⟨rfl, ⟨KF.it _ _ _ _ _⟩⟩
    · obtain ⟨y, hy⟩ : ∃ y, U[j]? = some y := ⟨_, List.getElem?_eq_getElem (by rw [HN.it]; exact hlt)⟩
      obtain ⟨g, rfl, _, hrow⟩ := HC.it j y hy
      obtain ⟨uq, uc, hu⟩ := (HB9.it y (List.mem_of_getElem? hy)).sl
      obtain ⟨z0, z1, z2, z3, z4⟩ := hrow.later K1.it (fun x => x)
      rw [ddrop_cons hy, dget] at ht
      obtain ⟨yk, yu, yr⟩ := y
      simp only at z0 z1 z2 z3 z4 ht hu
      subst hu
      by_cases hyz : yk = z
      · rw [if_pos hyz] at ht
        have HT := Aside.mk ht
        have q1 : (yk == z) = true := by simp [hyz]
        clear ht hy hrow hyz
        go_wp2_with fail
        have x3 := ((((C2.it.setCell 0 (.int .i64 yk)).setCell 1 (.slice uq yr.wr.length uc)).setCell 2 (.int .i64 ((yr.rd : Nat) : Int))).setCell 3 (.bool yr.cl)).setCell 4 (.bool yr.en)
        have y0 := x3.cell 0
        have y1 := x3.cell 1
        have y2 := x3.cell 2
        have y3 := x3.cell 3
        have y4 := x3.cell 4
        refine bodyPost_ret (v := .tuple #[.agg #[.int .i64 yk, .slice uq yr.wr.length uc, .int .i64 ((yr.rd : Nat) : Int), .bool yr.cl, .bool yr.en], .bool true]) (by simp [results, Tryd.f21, go_sem, y0, y1, y2, y3, y4]) rfl ?_
        unfold dgot
        rw [← HT.it]
        exact ⟨rfl, ⟨KF.it _ _ _ _ _⟩⟩
      · rw [if_neg hyz] at ht
        have HT := Aside.mk ht
        have q1 : (yk == z) = false := by simp [hyz]
        clear ht hy hrow hyz
        go_wp2_with fail
        go_roundw
        case rel => exact ⟨j + 1, by go_num, by omega, trivial, HT.it⟩
        case measure => simp [natOfT]; omega
end Go.Proofs.YtambdgcogldbgaaDoor
