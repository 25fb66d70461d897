/-
  package frame: Text.
-/
import Derived.Test.YtfpdllckpcjgdaaDoorTextB
namespace Go.Proofs.YtfpdllckpcjgdaaDoor
open Go.RowKit

def verW (v : Int) : List ByteArray := if v = 0 then [] else [str [118, 101, 114, 115, 105, 111, 110], dg v]
def txW (v t f s l : Int) : List ByteArray := ((tyW t ++ verW v) ++ fuW f) ++ [str [115, 116, 114, 101, 97, 109], dg s, str [108, 101, 110, 103, 116, 104], dg l]
theorem fuW_len (f : Int) : (fuW f).length ≤ 6 := by
  have := flW_len f 4
  simp only [fuW, List.length_append]
  split <;> simp <;> omega
theorem tyW_len (t : Int) : (tyW t).length ≤ 2 := by unfold tyW; split <;> simp
theorem verW_len (v : Int) : (verW v).length ≤ 2 := by unfold verW; split <;> simp

theorem OwnS.shape3 {B : Nat} {w : World} {v : Value} {ns : List ByteArray} (h : OwnS B w v ns) : ∃ p l c, v = .slice p l c := by
  obtain ⟨p, c, e⟩ := h.shape
  exact ⟨p, _, c, e⟩
structure TxAt (w : World) (v t f s l : Int) (xs : List ByteArray) (words : Value) (wr : World) : Prop where
  o : OwnS (w.heap.size + 1) wr words xs
  h : HB w.heap.size v t f s l wr
  b : Below w.heap.size w wr
  z : w.heap.size + 1 ≤ wr.heap.size
  n : xs.length ≤ 100
section
variable {w : World} {v t f s l : Int} {xs : List ByteArray} {words : Value}
theorem TxAt.later {wr w' : World} (h : TxAt w v t f s l xs words wr) (hb : Below wr.heap.size wr w') : TxAt w v t f s l xs words w' := ⟨h.o.later hb, h.h.later hb, h.b.trans (hb.mono h.b.size), Nat.le_trans h.z hb.size, h.n⟩
theorem TxAt.grown {wr w' : World} {ys : List ByteArray} {x' : Value} (h : TxAt w v t f s l xs words wr) (o : OwnS (w.heap.size + 1) w' x' ys) (hb : Below (w.heap.size + 1) wr w') (hn : ys.length ≤ 100) : TxAt w v t f s l ys x' w' :=
  ⟨o, h.h.under hb (by omega), h.b.trans (hb.mono (by omega)), Nat.le_trans h.z hb.size, hn⟩
theorem digits_t (W0 : Words w) (n : Int) (h0 : 0 ≤ n) (h1 : n ≤ 4294967295) (W : World) (h : Aside (TxAt w v t f s l xs words W)) :
    Calls Tryd.prog 17 #[.int .u32 n] W fun e w' => e = .returned (.string (dg n)) ∧ Aside (TxAt w v t f s l xs words w') :=
  (digits_any n h0 h1 W (W0.later h.it.b).p).mono (by rintro e w' ⟨rfl, hb⟩; exact ⟨rfl, ⟨h.it.later hb⟩⟩)
theorem flags_t (W0 : Words w) (hf0 : 0 ≤ bits .andNot .u16 f 15) (hf1 : bits .andNot .u16 f 15 ≤ 65535) (W : World) (h : Aside (TxAt w v t f s l xs words W)) :
    Calls Tryd.prog 18 #[hdr v t f s l] W fun e w' => ∃ p c, e = .returned (.slice p (fuW f).length c) ∧ Aside (RdS w' (.slice p (fuW f).length c) (fuW f)) ∧ Aside (TxAt w v t f s l xs words w') := by
  refine (flagsText_any v t f s l hf0 hf1 W (W0.later h.it.b)).mono ?_
  rintro e w' ⟨x, rfl, o, hb⟩
  obtain ⟨p, c, rfl⟩ := o.it.shape
  exact ⟨p, c, rfl, ⟨o.it.rd⟩, ⟨h.it.later hb⟩⟩
theorem TxAt.cellsA {wr : World} {o : Obj} (h : Aside (TxAt w v t f s l xs words wr)) : (wr.alloc o).cell? ⟨w.heap.size, 3, none⟩ = some (.int .u32 s) ∧ (wr.alloc o).cell? ⟨w.heap.size, 4, none⟩ = some (.int .u32 l) :=
  ⟨cell_alloc o h.it.h.2.2.2.1, cell_alloc o h.it.h.2.2.2.2⟩
theorem TxAt.ownA {wr : World} {o : Obj} (h : Aside (TxAt w v t f s l xs words wr)) : OwnS (w.heap.size + 1) (wr.alloc o) words xs := h.it.o.later (alloc_below _ _)
theorem TxAt.zA {wr : World} {o : Obj} (h : Aside (TxAt w v t f s l xs words wr)) : w.heap.size + 1 ≤ (wr.alloc o).heap.size := Nat.le_trans h.it.z (alloc_below wr o).size
theorem TxAt.room {wr : World} {a b c d : ByteArray} (h : Aside (TxAt w v t f s l xs words wr)) : (xs.length + [a, b, c, d].length) * 16 ≤ 140737488355328 := by
  have := h.it.n
  simp only [List.length_cons, List.length_nil]
  omega
theorem TxAt.stepped {wr w8 : World} {o : Obj} {a b c d : ByteArray} {x8 : Value} (o8 : Aside (OwnS (w.heap.size + 1) w8 x8 (xs ++ [a, b, c, d]))) (k8 : Aside (Below (w.heap.size + 1) (wr.alloc o) w8)) (hn : xs.length ≤ 90) (h : Aside (TxAt w v t f s l xs words wr)) :
    Aside (TxAt w v t f s l (xs ++ [a, b, c, d]) x8 w8) := by
  refine ⟨h.it.grown o8.it (((alloc_below wr o).mono h.it.z).trans k8.it) ?_⟩
  simp only [List.length_append, List.length_cons, List.length_nil]
  omega
theorem join_t {wr : World} {ys : List ByteArray} {x : Value} (h : TxAt w v t f s l ys x wr) (hp : 0 < ys.length) (hjl : (Lib.join (ys.map (·.data.toList)) [32]).length ≤ 140737488355328) :
    ∃ g n c, x = .slice (some ⟨g, 0, none⟩) n c ∧ Aside (Calls Tryd.prog 19 #[.slice (some ⟨g, 0, none⟩) n c, .string (str [32])] wr fun e w' => e = .returned (.string (str (Lib.join (ys.map (·.data.toList)) [32]))) ∧ Aside (Below w.heap.size w w')) := by
  rcases id h.o.2 with ⟨_, h0⟩ | ⟨g, c, cur, hx, hb, hg, hn, _⟩
  · omega
  · refine ⟨g, _, c, hx, ⟨?_⟩⟩
    have hc : ∀ j u, (strv ys)[j]? = some u → wr.cell? ⟨g, 0 + j, none⟩ = some u := fun j u hj => by
      have := h.o.cells (g := g) (by rw [hx]; rfl) j u hj
      rwa [add_none] at this
    have hJ := Tryd.strings_Join g 0 c ys (str [32]) wr (fun j x hj => hc j (.string x) (by simp [strv, hj])) (Array.getElem?_eq_some_iff.1 hg).1 (by have := h.n; omega) hn hjl
    exact hJ.mono (by rintro e w' ⟨rfl, hb'⟩; exact ⟨rfl, ⟨h.b.trans (hb'.mono h.b.size)⟩⟩)
theorem TxAt.cells {wr : World} (h : Aside (TxAt w v t f s l xs words wr)) : wr.cell? ⟨w.heap.size, 3, none⟩ = some (.int .u32 s) ∧ wr.cell? ⟨w.heap.size, 4, none⟩ = some (.int .u32 l) := ⟨h.it.h.2.2.2.1, h.it.h.2.2.2.2⟩
end

set_option maxRecDepth 20000 in
set_option maxHeartbeats 1500000 in
theorem text_walk (v t f s l : Int) (hv0 : 0 ≤ v) (hv1 : v ≤ 255) (ht0 : 0 ≤ t) (ht1 : t ≤ 255) (hf0 : 0 ≤ bits .andNot .u16 f 15) (hf1 : bits .andNot .u16 f 15 ≤ 65535) (hs0 : 0 ≤ s) (hs1 : s ≤ 4294967295) (hl0 : 0 ≤ l) (hl1 : l ≤ 4294967295)
    (w : World) (hw : Words w) (hjl : (Lib.join ((txW v t f s l).map (·.data.toList)) [32]).length ≤ 140737488355328) :
    Calls Tryd.prog 7 #[hdr v t f s l] w fun e w' => e = .returned (.string (str (Lib.join ((txW v t f s l).map (·.data.toList)) [32]))) ∧ Below w.heap.size w w' := by
  have hz : (w.alloc (hbox v t f s l)).heap.size = w.heap.size + 1 := by simp
  have T1 := Aside.mk (typeText_any v t f s l ht0 ht1 (w.alloc (hbox v t f s l)) (hw.later (alloc_below _ _)))
  have W0 := Aside.mk hw
  have H0 := Aside.mk (HB.new w v t f s l)
  have JL := Aside.mk hjl
  have HZ := Aside.mk hz
  clear hw hjl hz
  go_enter Tryd.func7, Tryd.ntmps7
  go_wp2_with fail
  refine T1.it.mono ?_
  rintro e w1 ⟨x1, rfl, O1, K1⟩
  have S1 : Aside (TxAt w v t f s l (tyW t) x1 w1) := ⟨⟨O1.it.mono (by rw [HZ.it]; exact Nat.le_refl _), H0.it.later K1, (alloc_below _ _).trans (K1.mono (by rw [HZ.it]; omega)), by have := K1.size; have := HZ.it; omega, by have := tyW_len t; omega⟩⟩
  obtain ⟨p1, c1, hx1⟩ := O1.it.shape
  subst hx1
  have g0 := S1.it.h.1
  clear K1 O1 T1 H0
  by_cases hv : v = 0
  · have hv' : (v != 0) = false := by simp [hv]
    have e2 : tyW t ++ verW v = tyW t := by simp [verW, hv]
    have S2 : Aside (TxAt w v t f s l (tyW t ++ verW v) (.slice p1 (tyW t).length c1) w1) := ⟨by rw [e2]; exact S1.it⟩
    clear e2
    clear hv S1
    have g0 := S2.it.h.1
    have g1 := S2.it.h.2.1
    have g2 := S2.it.h.2.2.1
    have g3 := S2.it.h.2.2.2.1
    have g4 := S2.it.h.2.2.2.2
    go_wp2_with fail
    have F4 := flags_t (v := v) (t := t) (s := s) (l := l) (xs := tyW t ++ verW v) W0.it hf0 hf1 w1 S2
    refine F4.mono ?_
    rintro e w4 ⟨p4, c4, rfl, R4, S4⟩
    clear F4
    go_wp2_with (at_builtin; refine wpList_appendS rfl (.tmp 16) (.tmp 18) rfl (w.heap.size + 1) _ _ (tyW t ++ verW v) (fuW f) S4.it.o R4.it (by have h1 := S4.it.n; have h2 := fuW_len f; omega) S4.it.z rfl rfl ?_; intro x5 w5 o5 k5)
    have S5 : Aside (TxAt w v t f s l ((tyW t ++ verW v) ++ fuW f) x5 w5) := ⟨S4.it.grown o5.it k5.it (by have h1 := tyW_len t; have h2 := verW_len v; have h3 := fuW_len f; simp only [List.length_append]; omega)⟩
    obtain ⟨p5, l5, c5, hx5⟩ := o5.it.shape3
    subst hx5
    have S5d : Aside (TxAt w v t f s l ((tyW t ++ verW v) ++ fuW f) (.slice p5 l5 c5) w5.drew) := ⟨S5.it.later (Below.refl _ _).drew⟩
    clear o5 k5 S5 R4 S4
    go_region_held_law (fun w' => w'.cell? ⟨w.heap.size, 3, none⟩ = some (.int .u32 s) ∧ w'.cell? ⟨w.heap.size, 4, none⟩ = some (.int .u32 l))
      (first | exact TxAt.cells (by assumption) | exact TxAt.cellsA (by assumption)) (first
      | (go_at_call 17; refine (digits_t (v := v) (t := t) (f := f) (s := s) (l := l) (xs := ((tyW t ++ verW v) ++ fuW f)) (words := .slice p5 l5 c5) W0.it _ (by assumption) (by assumption) _ (by assumption)).mono ?_; rintro e w6 ⟨rfl, S6⟩)
      | (refine step_appendS 28 rfl rfl (.tmp 20) (.tmp 27) rfl (w.heap.size + 1) _ _ ((tyW t ++ verW v) ++ fuW f) [str [115, 116, 114, 101, 97, 109], dg s, str [108, 101, 110, 103, 116, 104], dg l] (TxAt.ownA (by assumption)) (rd_newS _ [str [115, 116, 114, 101, 97, 109], dg s, str [108, 101, 110, 103, 116, 104], dg l] 4 rfl) (TxAt.room (by assumption)) (TxAt.zA (by assumption)) rfl rfl ?_; intro x8 w8 o8 k8; have S8 := TxAt.stepped o8 k8 (by have h1 := tyW_len t; have h2 := verW_len v; have h3 := fuW_len f; simp only [List.length_append]; omega) (by assumption)))
    obtain ⟨g8, n8, c8, hx8, J⟩ := join_t S8.it (by simp only [List.length_append, List.length_cons]; omega) JL.it
    subst hx8
    go_wp2_with (go_at_call 19; refine J.it.mono ?_; rintro e w9 ⟨rfl, hb9⟩)
    go_ret
    refine ⟨?_, hb9.it⟩
    simp [txW]
  · have hv' : (v != 0) = true := by simp [hv]
    have EV := Aside.mk (show verW v = [str [118, 101, 114, 115, 105, 111, 110], dg v] from if_neg hv)
    have D2 := Aside.mk (digits_t (v := v) (t := t) (f := f) (s := s) (l := l) (xs := tyW t) (words := .slice p1 (tyW t).length c1) W0.it v hv0 (by omega) w1 S1)
    clear hv
    go_wp2_with (first
      | (go_at_call 17; refine D2.it.mono ?_; rintro e w2 ⟨rfl, S2⟩; have S2a := Aside.mk (S2.it.later (alloc_below w2 (.cells #[.string (str [118, 101, 114, 115, 105, 111, 110]), .string (dg v)] 9))))
      | (have _u := S2a; clear _u; at_builtin; refine wpList_appendS rfl (.tmp 9) (.tmp 14) rfl (w.heap.size + 1) _ _ (tyW t) [str [118, 101, 114, 115, 105, 111, 110], dg v] S2a.it.o (rd_newS w2 [str [118, 101, 114, 115, 105, 111, 110], dg v] 2 rfl) (by have h1 := S2a.it.n; simp only [List.length_cons, List.length_nil]; omega) S2a.it.z rfl rfl ?_; intro x3 w3 o3 k3
         have S3 : Aside (TxAt w v t f s l (tyW t ++ verW v) x3 w3) := ⟨by rw [EV.it]; exact S2a.it.grown o3.it k3.it (by have h1 := tyW_len t; simp only [List.length_append, List.length_cons, List.length_nil]; omega)⟩
         obtain ⟨p3, l3, c3, hx3⟩ := S3.it.o.shape3
         subst hx3
         have h0 := S3.it.h.1
         have h1 := S3.it.h.2.1
         have h2 := S3.it.h.2.2.1
         have h3 := S3.it.h.2.2.2.1
         have h4 := S3.it.h.2.2.2.2))
    have F4 := flags_t (v := v) (t := t) (s := s) (l := l) (xs := tyW t ++ verW v) W0.it hf0 hf1 w3 S3
    refine F4.mono ?_
    rintro e w4 ⟨p4, c4, rfl, R4, S4⟩
    clear F4
    go_wp2_with (at_builtin; refine wpList_appendS rfl (.tmp 16) (.tmp 18) rfl (w.heap.size + 1) _ _ (tyW t ++ verW v) (fuW f) S4.it.o R4.it (by have h1 := S4.it.n; have h2 := fuW_len f; omega) S4.it.z rfl rfl ?_; intro x5 w5 o5 k5)
    have S5 : Aside (TxAt w v t f s l ((tyW t ++ verW v) ++ fuW f) x5 w5) := ⟨S4.it.grown o5.it k5.it (by have h1 := tyW_len t; have h2 := verW_len v; have h3 := fuW_len f; simp only [List.length_append]; omega)⟩
    obtain ⟨p5, l5, c5, hx5⟩ := o5.it.shape3
    subst hx5
    have S5d : Aside (TxAt w v t f s l ((tyW t ++ verW v) ++ fuW f) (.slice p5 l5 c5) w5.drew) := ⟨S5.it.later (Below.refl _ _).drew⟩
    clear o5 k5 S5 R4 S4
    go_region_held_law (fun w' => w'.cell? ⟨w.heap.size, 3, none⟩ = some (.int .u32 s) ∧ w'.cell? ⟨w.heap.size, 4, none⟩ = some (.int .u32 l))
      (first | exact TxAt.cells (by assumption) | exact TxAt.cellsA (by assumption)) (first
      | (go_at_call 17; refine (digits_t (v := v) (t := t) (f := f) (s := s) (l := l) (xs := ((tyW t ++ verW v) ++ fuW f)) (words := .slice p5 l5 c5) W0.it _ (by assumption) (by assumption) _ (by assumption)).mono ?_; rintro e w6 ⟨rfl, S6⟩)
      | (refine step_appendS 28 rfl rfl (.tmp 20) (.tmp 27) rfl (w.heap.size + 1) _ _ ((tyW t ++ verW v) ++ fuW f) [str [115, 116, 114, 101, 97, 109], dg s, str [108, 101, 110, 103, 116, 104], dg l] (TxAt.ownA (by assumption)) (rd_newS _ [str [115, 116, 114, 101, 97, 109], dg s, str [108, 101, 110, 103, 116, 104], dg l] 4 rfl) (TxAt.room (by assumption)) (TxAt.zA (by assumption)) rfl rfl ?_; intro x8 w8 o8 k8; have S8 := TxAt.stepped o8 k8 (by have h1 := tyW_len t; have h2 := verW_len v; have h3 := fuW_len f; simp only [List.length_append]; omega) (by assumption)))
    obtain ⟨g8, n8, c8, hx8, J⟩ := join_t S8.it (by simp only [List.length_append, List.length_cons]; omega) JL.it
    subst hx8
    go_wp2_with (go_at_call 19; refine J.it.mono ?_; rintro e w9 ⟨rfl, hb9⟩)
    go_ret
    refine ⟨?_, hb9.it⟩
    simp [txW]
end Go.Proofs.YtfpdllckpcjgdaaDoor
