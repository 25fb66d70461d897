/-
  layer 21's law: lists of loads as rows; load, may, the document's May; fixed; PlaceNames
-/
import Derived.Test.YtnhgpnkomkiniaaDoorPlB
namespace Go.Proofs.YtnhgpnkomkiniaaDoor
open Go.RowKit

variable {A : Nat → Addr} {w w' W : World}

/-- loads as cells -/
def lc (zs : List LoadV) : List Value := zs.flatMap LoadV.cells
theorem lc_len (zs : List LoadV) : (lc zs).length = zs.length * 4 := by
  induction zs with
  | nil => rfl
  | cons z r ih => simp only [lc, List.flatMap_cons, List.length_append, List.length_cons] at ih ⊢; rw [ih]; simp only [List.length_nil]; omega
theorem lc_append (a b : List LoadV) : lc (a ++ b) = lc a ++ lc b := by simp [lc, List.flatMap_append]
theorem lc_at : ∀ {zs : List LoadV} {k : Nat} {z : LoadV} (_ : zs[k]? = some z) (j : Nat) (_ : j < 4), (lc zs)[k * 4 + j]? = z.cells[j]?
  | [], k, z, h, _, _ => by simp at h
  | y :: r, 0, z, h, j, hj => by
    simp only [List.getElem?_cons_zero, Option.some.injEq] at h
    subst h
    rw [lc, List.flatMap_cons, Nat.zero_mul, Nat.zero_add, List.getElem?_append_left (by simpa using hj)]
  | y :: r, k + 1, z, h, j, hj => by
    rw [List.getElem?_cons_succ] at h
    have := lc_at h j hj
    rw [lc, List.flatMap_cons, List.getElem?_append_right (by simp; omega)]
    rw [← this]
    unfold lc
    congr 1
    simp
    omega
theorem lc_one (zs : List LoadV) : ∀ u ∈ lc zs, u.oneCell' = true := by
  intro u hu
  obtain ⟨z, _, hu⟩ := List.mem_flatMap.1 hu
  simp only [List.mem_cons, List.not_mem_nil, or_false] at hu
  rcases hu with rfl | rfl | rfl | rfl <;> rfl
def Bds (zs : List LoadV) : Prop := ∀ z ∈ zs, (-9223372036854775808 ≤ z.opn ∧ z.opn ≤ 9223372036854775807) ∧ -9223372036854775808 ≤ z.left ∧ z.left ≤ 9223372036854775807
theorem LdsAt.bds {v : Value} {zs : List LoadV} (h : LdsAt w v zs) : Bds zs := by
  obtain ⟨a, cap, e, h1, h2, h3⟩ := h
  intro z hz
  obtain ⟨i, hi⟩ := List.mem_iff_getElem?.1 hz
  obtain ⟨b, o, cs, ha, ⟨_, hb1, hb2⟩, _⟩ := h3 i z hi
  exact ⟨hb1, hb2⟩
theorem lds_of_reads {v : Value} {n : Nat} {zs : List LoadV} (h : ReadsK 4 w v n (lc zs)) (hb : Bds zs) : LdsAt w v zs := by
  obtain ⟨hl, a, c, rfl, hnc, hm, ha, hc⟩ := h
  have hn : zs.length = n := by have := lc_len zs; omega
  subst hn
  refine ⟨a, c, rfl, hnc, hm, fun i z hz => ?_⟩
  obtain ⟨g, o, rfl, _⟩ := hc (i * 4 + 0) _ ((lc_at hz 0 (by decide)).trans rfl)
  refine ⟨g, o, z.cells, rfl, ⟨rfl, hb z (List.mem_of_getElem? hz)⟩, rfl, fun j hj => ?_⟩
  obtain ⟨u, hu⟩ : ∃ u, z.cells[j]? = some u := ⟨_, List.getElem?_eq_getElem (by simpa using hj)⟩
  obtain ⟨g', o', e, hce⟩ := hc (i * 4 + j) u ((lc_at hz j hj).trans hu)
  injection e with e
  injection e with e1 e2
  subst e1 e2
  rw [hu, Nat.add_assoc]
  exact hce
theorem LdsAt.reads {v : Value} {zs : List LoadV} (h : LdsAt w v zs) (hn : ∀ l c, v = .slice none l c → c = 0) : ReadsK 4 w v zs.length (lc zs) := by
  obtain ⟨a, cap, rfl, h1, h2, h3⟩ := h
  refine ⟨lc_len zs, a, cap, rfl, h1, h2, fun e => hn _ _ (by rw [e]), fun j u hj => ?_⟩
  have hjl := (List.getElem?_eq_some_iff.1 hj).1
  rw [lc_len] at hjl
  obtain ⟨z, hz⟩ : ∃ z, zs[j / 4]? = some z := ⟨_, List.getElem?_eq_getElem (by omega)⟩
  obtain ⟨b, o, cs, ha, ⟨rfl, _⟩, hl, hc⟩ := h3 _ z hz
  have := lc_at hz (j % 4) (by omega)
  have e : j / 4 * 4 + j % 4 = j := by omega
  rw [e, hj] at this
  have h4 := hc (j % 4) (by omega)
  rw [← this, Nat.add_assoc, e] at h4
  exact ⟨b, o, ha, h4⟩
/-- a list that was just built -/
theorem lds_new (w : World) (cs : Array Value) (zs : List LoadV) (h : cs = (lc zs).toArray) (hb : Bds zs) (n : Nat) (hn : zs.length = n) (hm : n ≤ maxLen) : LdsAt (w.alloc (.cells cs 23)) (.slice (some ⟨w.heap.size, 0, none⟩) n n) zs := by
  subst h hn
  refine lds_of_reads ⟨lc_len zs, _, _, rfl, Nat.le_refl _, hm, fun e => (by cases e), fun j u hj => ⟨_, _, rfl, ?_⟩⟩ hb
  have := (Cells.new w 23 (lc zs)).cell j
  rw [Nat.zero_add, this]
  exact hj
theorem lds_nil (w : World) : LdsAt w (.slice none 0 0) [] := ⟨none, 0, rfl, Nat.le_refl _, Nat.zero_le _, fun i z hz => by simp at hz⟩

theorem load_ok (o f : Int) (w : World) : Calls Tryd.prog 9 #[.int .i64 o, .int .i64 f] w fun e w' => e = .returned (.agg #[.bool true, .bool false, .int .i64 o, .int .i64 f]) ∧ Aside (Keeps Nowhere w w') := by
  go_enter Tryd.func9, Tryd.ntmps9
  go_wp2
  obtain ⟨W, hW⟩ : ∃ W, W = w.alloc (.cells #[.bool true, .bool false, .int .i64 o, .int .i64 f] 23) := ⟨_, rfl⟩
  have B0 : Cells W w.heap.size 23 [.bool true, .bool false, .int .i64 o, .int .i64 f] := by rw [hW]; exact Cells.new w _ _
  have K0 : Aside (Keeps Nowhere w W) := ⟨by rw [hW]; exact (Keeps.refl _ _).alloc _⟩
  have a0 : W.cell? ⟨w.heap.size, 0, none⟩ = some (.bool true) := by rw [B0.cell]; rfl
  have a1 : W.cell? ⟨w.heap.size, 1, none⟩ = some (.bool false) := by rw [B0.cell]; rfl
  have a2 : W.cell? ⟨w.heap.size, 2, none⟩ = some (.int .i64 o) := by rw [B0.cell]; rfl
  have a3 : W.cell? ⟨w.heap.size, 3, none⟩ = some (.int .i64 f) := by rw [B0.cell]; rfl
  try rw [← hW]
  refine bodyPost_ret (v := .agg #[.bool true, .bool false, .int .i64 o, .int .i64 f]) (by simp [results, Tryd.results9, go_sem, a0, a1, a2, a3]) rfl ?_
  exact ⟨rfl, K0⟩

theorem may_full {o f most : Int} (h : ¬ o < most) : LoadV.may most ⟨true, false, o, f⟩ = false := by
  unfold LoadV.may
  simp only [decide_eq_false h, Bool.and_false, Bool.false_and]
theorem may_ok (l d : Bool) (o f most : Int) (w : World) : Calls Tryd.prog 13 #[.agg #[.bool l, .bool d, .int .i64 o, .int .i64 f], .int .i64 most] w fun e w' => e = .returned (.bool (LoadV.may most ⟨l, d, o, f⟩)) ∧ Aside (Keeps Nowhere w w') := by
  cases l
  · go_enter Tryd.func13, Tryd.ntmps13
    go_wp2
    go_ret
    exact ⟨rfl, ⟨(Keeps.refl _ _).alloc _⟩⟩
  cases d
  · by_cases h2 : o < most
    · go_enter Tryd.func13, Tryd.ntmps13
      go_wp2
      go_ret
      exact ⟨by simp [LoadV.may, h2], ⟨(Keeps.refl _ _).alloc _⟩⟩
    · have M := Aside.mk (may_full (f := f) h2)
      go_enter Tryd.func13, Tryd.ntmps13
      go_wp2
      go_ret
      exact ⟨by rw [M.it]; rfl, ⟨(Keeps.refl _ _).alloc _⟩⟩
  · go_enter Tryd.func13, Tryd.ntmps13
    go_wp2
    go_ret
    exact ⟨rfl, ⟨(Keeps.refl _ _).alloc _⟩⟩
theorem mayD_ok (l d : Bool) (o f most : Int) (w : World) : Calls Tryd.prog 20 #[.agg #[.bool l, .bool d, .int .i64 o, .int .i64 f], .int .i64 most] w fun e w' => e = .returned (.bool (LoadV.may most ⟨l, d, o, f⟩)) ∧ Aside (Keeps Nowhere w w') := by
  cases l
  · go_enter Tryd.func20, Tryd.ntmps20
    go_wp2
    go_ret
    exact ⟨rfl, ⟨(Keeps.refl _ _).alloc _⟩⟩
  cases d
  · by_cases h2 : o < most
    · go_enter Tryd.func20, Tryd.ntmps20
      go_wp2
      go_ret
      exact ⟨by simp [LoadV.may, h2], ⟨(Keeps.refl _ _).alloc _⟩⟩
    · have M := Aside.mk (may_full (f := f) h2)
      go_enter Tryd.func20, Tryd.ntmps20
      go_wp2
      go_ret
      exact ⟨by rw [M.it]; rfl, ⟨(Keeps.refl _ _).alloc _⟩⟩
  · go_enter Tryd.func20, Tryd.ntmps20
    go_wp2
    go_ret
    exact ⟨rfl, ⟨(Keeps.refl _ _).alloc _⟩⟩

theorem PickV.ok {most : Int} {zs : List LoadV} {k : Int} {ev : Value} {a : Nat} (h : PickV A most zs k ev) (p : IsPick most zs a) : k = a ∧ ev = .nilIface := by
  rcases h with ⟨a', rfl, rfl, p'⟩ | ⟨_, n, _⟩
  · rw [p.only p']; exact ⟨rfl, rfl⟩
  · exact (n.not p).elim
theorem PickV.no {most : Int} {zs : List LoadV} {k : Int} {ev : Value} (h : PickV A most zs k ev) (n : NoneMay most zs) : k = 0 ∧ Coded A ev (whyN most zs) ∧ whyN most zs ≠ 0 := by
  rcases h with ⟨a', rfl, rfl, p'⟩ | ⟨h, _, h2, h3⟩
  · exact (n.not p').elim
  · exact ⟨h, h2, h3⟩
theorem pick_ok (v : Value) (zs : List LoadV) (most : Int) (a : Nat) (p : IsPick most zs a) (hv : LdsAt w v zs) (hs : Sents 61 codeVars A w) :
    Calls Tryd.prog 8 #[v, .int .i64 most] w fun e w' => e = .returned (.tuple #[.int .i64 (a : Nat), .nilIface]) ∧ Aside (Keeps Nowhere w w') := by
  refine (pick_any v zs most hv hs).mono ?_
  rintro e w' ⟨k, ev, rfl, P, K⟩
  obtain ⟨rfl, rfl⟩ := P.it.ok p
  exact ⟨rfl, K⟩
theorem pick_okI (v : Value) (zs : List LoadV) (most k : Int) (a : Nat) (e : k = (a : Int)) (p : IsPick most zs a) (hv : LdsAt w v zs) (hs : Sents 61 codeVars A w) :
    Calls Tryd.prog 8 #[v, .int .i64 most] w fun e w' => e = .returned (.tuple #[.int .i64 k, .nilIface]) ∧ Aside (Keeps Nowhere w w') := by
  subst e
  exact pick_ok v zs most a p hv hs
theorem pick_no (v : Value) (zs : List LoadV) (most : Int) (p : NoneMay most zs) (hv : LdsAt w v zs) (hs : Sents 61 codeVars A w) :
    Calls Tryd.prog 8 #[v, .int .i64 most] w fun e w' => ∃ q, e = .returned (.tuple #[.int .i64 0, .iface 61 (.pointer (some q))]) ∧ Hid (Coded A (.iface 61 (.pointer (some q))) (whyN most zs)) ∧ Aside (Keeps Nowhere w w') := by
  refine (pick_any v zs most hv hs).mono ?_
  rintro e w' ⟨k, ev, rfl, P, K⟩
  obtain ⟨rfl, C, c0⟩ := P.it.no p
  obtain ⟨q, rfl⟩ := C.pos c0
  exact ⟨q, rfl, hide C, K⟩
end Go.Proofs.YtnhgpnkomkiniaaDoor
