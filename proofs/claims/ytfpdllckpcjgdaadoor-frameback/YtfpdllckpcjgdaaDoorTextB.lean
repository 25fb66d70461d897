/-
  package frame: flagsText.
-/
import Derived.Test.YtfpdllckpcjgdaaDoorTextA
namespace Go.Proofs.YtfpdllckpcjgdaaDoor
open Go.RowKit

/-- the words of the flags below the i-th -/
def flW (f : Int) : Nat → List ByteArray
  | 0 => []
  | i + 1 => flW f i ++ if bits .and .u16 f (2 ^ i : Nat) != 0 then [str (wordsF.getD i [])] else []
def fuW (f : Int) : List ByteArray := flW f 4 ++ if bits .andNot .u16 f 15 != 0 then [str [102, 108, 97, 103, 115], dg (bits .andNot .u16 f 15)] else []
theorem flW_len (f : Int) (i : Nat) : (flW f i).length ≤ i := by
  induction i with
  | zero => exact Nat.le_refl _
  | succ i ih =>
    simp only [flW, List.length_append]
    split <;> simp <;> omega
theorem rd_newS2 (w : World) (o : Obj) (ns : List ByteArray) (n : Nat) (hn : ns.length = n) : RdS ((w.alloc o).alloc (.cells (ns.map Value.string).toArray 9)) (.slice (some ⟨w.heap.size + 1, 0, none⟩) n n) ns := by
  have h := rd_newS (w.alloc o) ns n hn
  have hz : (w.alloc o).heap.size = w.heap.size + 1 := by simp
  rwa [hz] at h
structure FlAt (w : World) (v t f s l : Int) (n : Nat) (words : Value) (wr : World) : Prop where
  o : OwnS (w.heap.size + 1) wr words (flW f n)
  h : HB w.heap.size v t f s l wr
  b : Below w.heap.size w wr
  z : w.heap.size + 1 ≤ wr.heap.size
theorem HB.under {p B : Nat} {v t f s l : Int} {w w' : World} (h : HB p v t f s l w) (hb : Below B w w') (hp : p < B) : HB p v t f s l w' :=
  ⟨(hb.cell (p := ⟨p, 0, none⟩) hp).trans h.1, (hb.cell (p := ⟨p, 1, none⟩) hp).trans h.2.1, (hb.cell (p := ⟨p, 2, none⟩) hp).trans h.2.2.1, (hb.cell (p := ⟨p, 3, none⟩) hp).trans h.2.2.2.1, (hb.cell (p := ⟨p, 4, none⟩) hp).trans h.2.2.2.2⟩
theorem FlAt.hit {w wr w4 : World} {v t f s l : Int} {n : Nat} {x x4 : Value} {o1 o2 : Obj} {wd : ByteArray} (h : FlAt w v t f s l n x wr) (hbit : (bits .and .u16 f (2 ^ n : Nat) != 0) = true) (hw : wd = str (wordsF.getD n []))
    (o4 : OwnS (w.heap.size + 1) w4 x4 (flW f n ++ [wd])) (k4 : Below (w.heap.size + 1) ((wr.alloc o1).alloc o2) w4) : FlAt w v t f s l (n + 1) x4 w4 := by
  have hb : Below (w.heap.size + 1) wr w4 := ((alloc2_below wr o1 o2).mono h.z).trans k4
  refine ⟨?_, h.h.under hb (by omega), h.b.trans (hb.mono (by omega)), Nat.le_trans h.z hb.size⟩
  simp only [flW]
  rw [if_pos hbit, ← hw]
  exact o4
theorem FlAt.miss {w wr : World} {v t f s l : Int} {n : Nat} {x : Value} {o1 : Obj} (h : FlAt w v t f s l n x wr) (hbit : ¬ (bits .and .u16 f (2 ^ n : Nat) != 0) = true) : FlAt w v t f s l (n + 1) x (wr.alloc o1) := by
  have hb := alloc_below wr o1
  refine ⟨?_, h.h.later hb, h.b.trans (hb.mono h.b.size), Nat.le_trans h.z hb.size⟩
  simp only [flW]
  rw [if_neg hbit, List.append_nil]
  exact h.o.later hb

set_option maxRecDepth 20000 in
set_option maxHeartbeats 4000000 in
theorem flagsText_any (v t f s l : Int) (hf0 : 0 ≤ bits .andNot .u16 f 15) (hf1 : bits .andNot .u16 f 15 ≤ 65535) (w : World) (hw : Words w) :
    Calls Tryd.prog 18 #[hdr v t f s l] w fun e w' => ∃ x, e = .returned x ∧ Aside (OwnS w.heap.size w' x (fuW f)) ∧ Below w.heap.size w w' := by
  have e0 := fun o => cell_alloc o (hw.f 0 (by decide))
  have e1 := fun o => cell_alloc o (hw.g 0 (by decide))
  have e2 := fun o => cell_alloc o (hw.f 1 (by decide))
  have e3 := fun o => cell_alloc o (hw.g 1 (by decide))
  have e4 := fun o => cell_alloc o (hw.f 2 (by decide))
  have e5 := fun o => cell_alloc o (hw.g 2 (by decide))
  have e6 := fun o => cell_alloc o (hw.f 3 (by decide))
  have e7 := fun o => cell_alloc o (hw.g 3 (by decide))
  simp only [Nat.mul_zero, Nat.zero_add, Nat.mul_one, Nat.reduceMul, Nat.reduceAdd, Nat.reducePow, Nat.pow_zero, wordsF, List.getD_cons_zero, List.getD_cons_succ] at e0 e1 e2 e3 e4 e5 e6 e7
  have hz : (w.alloc (hbox v t f s l)).heap.size = w.heap.size + 1 := by simp
  have S0 : Aside (FlAt w v t f s l 0 (.slice none 0 0) (w.alloc (hbox v t f s l))) := ⟨⟨World.ownsRow_nil _ _ _ _, HB.new w v t f s l, alloc_below _ _, by rw [hz]; exact Nat.le_refl _⟩⟩
  have W0 := Aside.mk hw
  clear hw hz
  go_enter Tryd.func18, Tryd.ntmps18
  go_wp2_with fail
  go_loopw [3, 8] (fun x y wr => ∃ (n : Nat) (k : Int), y = .int .i64 k ∧ Aside (k = (n : Int)) ∧ n ≤ 4 ∧ (∃ a l c, x = .slice a l c) ∧ Aside (FlAt w v t f s l n x wr)) (fun _ y _ => 4 - (intOf y).toNat)
  case atStart => exact ⟨0, 0, rfl, ⟨rfl⟩, by omega, ⟨_, _, _, rfl⟩, S0⟩
  case round =>
    obtain ⟨n, k, rfl, hk, hn, ⟨xa, xl, xc, rfl⟩, S1⟩ := hrel
    clear e0 e1 e2 e3 e4 e5 e6 e7
    by_cases h4 : n < 4
    · have c2 := fun o => cell_alloc o S1.it.h.2.2.1
      have hlen := Aside.mk (flW_len f n)
      match n, h4 with
      | 0, _ =>
        obtain rfl : k = 0 := hk.it
        have hix : ∀ W, (Instr.index 63 (.agg #[.int .u16 1, .string (str [115, 121, 110]), .int .u16 2, .string (str [97, 99, 107]), .int .u16 4, .string (str [102, 105, 110]), .int .u16 8, .string (str [114, 115, 116])]) (.int .i64 0)).run Tryd.prog W = .ok (.agg #[.int .u16 1, .string (str [115, 121, 110])]) W := fun _ => by kernel_rfl
        have O1 := fun o1 o2 => Aside.mk (S1.it.o.later (alloc2_below wr o1 o2))
        have Z1 : Aside (∀ o1 o2, w.heap.size + 1 ≤ ((wr.alloc o1).alloc o2).heap.size) := ⟨fun o1 o2 => Nat.le_trans S1.it.z (alloc2_below wr o1 o2).size⟩
        go_wp2_with (at_builtin; refine wpList_appendS rfl (.tmp 17) (.tmp 20) rfl (w.heap.size + 1) _ _ (flW f 0) [str [115, 121, 110]] (O1 _ _).it (rd_newS2 wr _ [str [115, 121, 110]] 1 rfl) (by have := hlen.it; simp only [List.length_singleton]; omega) (Z1.it _ _) rfl rfl ?_; intro x4 w4 o4 k4)
        · obtain ⟨pa, pc, hx4⟩ := o4.it.shape
          exact ⟨⟨1, 1, rfl, ⟨rfl⟩, by omega, ⟨_, _, _, hx4⟩, ⟨S1.it.hit (by simp_all) rfl o4.it k4.it⟩⟩, by decide⟩
        · exact ⟨⟨1, 1, rfl, ⟨rfl⟩, by omega, ⟨_, _, _, rfl⟩, ⟨S1.it.miss (by simp_all)⟩⟩, by decide⟩
      | 1, _ =>
        obtain rfl : k = 1 := hk.it
        have hix : ∀ W, (Instr.index 63 (.agg #[.int .u16 1, .string (str [115, 121, 110]), .int .u16 2, .string (str [97, 99, 107]), .int .u16 4, .string (str [102, 105, 110]), .int .u16 8, .string (str [114, 115, 116])]) (.int .i64 1)).run Tryd.prog W = .ok (.agg #[.int .u16 2, .string (str [97, 99, 107])]) W := fun _ => by kernel_rfl
        have O1 := fun o1 o2 => Aside.mk (S1.it.o.later (alloc2_below wr o1 o2))
        have Z1 : Aside (∀ o1 o2, w.heap.size + 1 ≤ ((wr.alloc o1).alloc o2).heap.size) := ⟨fun o1 o2 => Nat.le_trans S1.it.z (alloc2_below wr o1 o2).size⟩
        go_wp2_with (at_builtin; refine wpList_appendS rfl (.tmp 17) (.tmp 20) rfl (w.heap.size + 1) _ _ (flW f 1) [str [97, 99, 107]] (O1 _ _).it (rd_newS2 wr _ [str [97, 99, 107]] 1 rfl) (by have := hlen.it; simp only [List.length_singleton]; omega) (Z1.it _ _) rfl rfl ?_; intro x4 w4 o4 k4)
        · obtain ⟨pa, pc, hx4⟩ := o4.it.shape
          exact ⟨⟨2, 2, rfl, ⟨rfl⟩, by omega, ⟨_, _, _, hx4⟩, ⟨S1.it.hit (by simp_all) rfl o4.it k4.it⟩⟩, by decide⟩
        · exact ⟨⟨2, 2, rfl, ⟨rfl⟩, by omega, ⟨_, _, _, rfl⟩, ⟨S1.it.miss (by simp_all)⟩⟩, by decide⟩
      | 2, _ =>
        obtain rfl : k = 2 := hk.it
        have hix : ∀ W, (Instr.index 63 (.agg #[.int .u16 1, .string (str [115, 121, 110]), .int .u16 2, .string (str [97, 99, 107]), .int .u16 4, .string (str [102, 105, 110]), .int .u16 8, .string (str [114, 115, 116])]) (.int .i64 2)).run Tryd.prog W = .ok (.agg #[.int .u16 4, .string (str [102, 105, 110])]) W := fun _ => by kernel_rfl
        have O1 := fun o1 o2 => Aside.mk (S1.it.o.later (alloc2_below wr o1 o2))
        have Z1 : Aside (∀ o1 o2, w.heap.size + 1 ≤ ((wr.alloc o1).alloc o2).heap.size) := ⟨fun o1 o2 => Nat.le_trans S1.it.z (alloc2_below wr o1 o2).size⟩
        go_wp2_with (at_builtin; refine wpList_appendS rfl (.tmp 17) (.tmp 20) rfl (w.heap.size + 1) _ _ (flW f 2) [str [102, 105, 110]] (O1 _ _).it (rd_newS2 wr _ [str [102, 105, 110]] 1 rfl) (by have := hlen.it; simp only [List.length_singleton]; omega) (Z1.it _ _) rfl rfl ?_; intro x4 w4 o4 k4)
        · obtain ⟨pa, pc, hx4⟩ := o4.it.shape
          exact ⟨⟨3, 3, rfl, ⟨rfl⟩, by omega, ⟨_, _, _, hx4⟩, ⟨S1.it.hit (by simp_all) rfl o4.it k4.it⟩⟩, by decide⟩
        · exact ⟨⟨3, 3, rfl, ⟨rfl⟩, by omega, ⟨_, _, _, rfl⟩, ⟨S1.it.miss (by simp_all)⟩⟩, by decide⟩
      | 3, _ =>
        obtain rfl : k = 3 := hk.it
        have hix : ∀ W, (Instr.index 63 (.agg #[.int .u16 1, .string (str [115, 121, 110]), .int .u16 2, .string (str [97, 99, 107]), .int .u16 4, .string (str [102, 105, 110]), .int .u16 8, .string (str [114, 115, 116])]) (.int .i64 3)).run Tryd.prog W = .ok (.agg #[.int .u16 8, .string (str [114, 115, 116])]) W := fun _ => by kernel_rfl
        have O1 := fun o1 o2 => Aside.mk (S1.it.o.later (alloc2_below wr o1 o2))
        have Z1 : Aside (∀ o1 o2, w.heap.size + 1 ≤ ((wr.alloc o1).alloc o2).heap.size) := ⟨fun o1 o2 => Nat.le_trans S1.it.z (alloc2_below wr o1 o2).size⟩
        go_wp2_with (at_builtin; refine wpList_appendS rfl (.tmp 17) (.tmp 20) rfl (w.heap.size + 1) _ _ (flW f 3) [str [114, 115, 116]] (O1 _ _).it (rd_newS2 wr _ [str [114, 115, 116]] 1 rfl) (by have := hlen.it; simp only [List.length_singleton]; omega) (Z1.it _ _) rfl rfl ?_; intro x4 w4 o4 k4)
        · obtain ⟨pa, pc, hx4⟩ := o4.it.shape
          exact ⟨⟨4, 4, rfl, ⟨rfl⟩, by omega, ⟨_, _, _, hx4⟩, ⟨S1.it.hit (by simp_all) rfl o4.it k4.it⟩⟩, by decide⟩
        · exact ⟨⟨4, 4, rfl, ⟨rfl⟩, by omega, ⟨_, _, _, rfl⟩, ⟨S1.it.miss (by simp_all)⟩⟩, by decide⟩
    · obtain rfl : n = 4 := by omega
      obtain rfl : k = 4 := hk.it
      have c2 := S1.it.h.2.2.1
      have hlen := Aside.mk (flW_len f 4)
      by_cases hA : (bits .andNot .u16 f 15 != 0) = true
      · have E := Aside.mk (show fuW f = flW f 4 ++ [str [102, 108, 97, 103, 115], dg (bits .andNot .u16 f 15)] by simp only [fuW]; rw [if_pos hA])
        have D := Aside.mk (digits_any (bits .andNot .u16 f 15) hf0 (by omega) wr (W0.it.later S1.it.b).p)
        go_wp2_with (first
          | (go_at_call 17; refine D.it.mono ?_; rintro e w2 ⟨rfl, hb⟩; have O2 := Aside.mk (S1.it.o.later (hb.alloc hb.size (.cells #[.string (str [102, 108, 97, 103, 115]), .string (dg (bits .andNot .u16 f 15))] 9))); have Z2 : Aside (w.heap.size + 1 ≤ (w2.alloc (.cells #[.string (str [102, 108, 97, 103, 115]), .string (dg (bits .andNot .u16 f 15))] 9)).heap.size) := ⟨by have h1 := S1.it.z; have h2 := hb.size; simp; omega⟩; have HB2 := Aside.mk hb; clear hb)
          | (at_builtin; refine wpList_appendS rfl (.tmp 28) (.tmp 32) rfl (w.heap.size + 1) _ _ (flW f 4) [str [102, 108, 97, 103, 115], dg (bits .andNot .u16 f 15)] O2.it (rd_newS w2 [str [102, 108, 97, 103, 115], dg (bits .andNot .u16 f 15)] 2 rfl) (by have := hlen.it; simp only [List.length_cons, List.length_nil]; omega) Z2.it rfl rfl ?_; intro x4 w4 o4 k4))
        go_ret
        refine ⟨_, rfl, ⟨by rw [E.it]; exact o4.it.mono (by omega)⟩, ?_⟩
        exact S1.it.b.trans ((HB2.it.alloc HB2.it.size _).mono (by have := S1.it.z; omega) |>.trans (k4.it.mono (by omega)))
      · have E := Aside.mk (show fuW f = flW f 4 by simp only [fuW]; rw [if_neg hA, List.append_nil])
        have hA' : (bits .andNot .u16 f 15 != 0) = false := by simpa using hA
        go_wp2_with fail
        go_ret
        exact ⟨_, rfl, ⟨by rw [E.it]; exact S1.it.o.mono (by omega)⟩, S1.it.b⟩
end Go.Proofs.YtfpdllckpcjgdaaDoor
