import Derived.Test.YtbbldkldgjmmgaaGreatDoorTFmtU
import Derived.Test.YtbbldkldgjmmgaaGreatDoorTOwnS
import Derived.Test.YtbbldkldgjmmgaaGreatDoorFe2
import Derived.Lib.ItoaLen
import Derived.Laws.BitsLemmas
import Derived.Lib.ItoaNum
import Derived.Laws.BitsAllLaws
/-
  package frame: the words of a header's text.
-/
namespace Go.Proofs.YtbbldkldgjmmgaaGreatDoor
open Go.RowKit

/-- a text's bytes, as a string -/
abbrev str (l : List UInt8) : ByteArray := ⟨l.toArray⟩
def wordsT : List (List UInt8) := [[100, 97, 116, 97], [119, 105, 110, 100, 111, 119], [112, 105, 110, 103], [97, 119, 97, 121]]
def wordsF : List (List UInt8) := [[115, 121, 110], [97, 99, 107], [102, 105, 110], [114, 115, 116]]
/-- the tables of words lie in memory, and the powers of ten -/
structure Words (w : World) : Prop where
  t : ∀ i, i < 4 → w.cell? ⟨10, i, none⟩ = some (.string (str (wordsT.getD i [])))
  f : ∀ i, i < 4 → w.cell? ⟨11, 2 * i, none⟩ = some (.int .u16 (2 ^ i : Nat))
  g : ∀ i, i < 4 → w.cell? ⟨11, 2 * i + 1, none⟩ = some (.string (str (wordsF.getD i [])))
  p : Pow10 w
theorem Words.later {w w' : World} (h : Words w) (hb : Below w.heap.size w w') : Words w' := by
  refine ⟨fun i hi => ?_, fun i hi => ?_, fun i hi => ?_, h.p.later hb⟩
  · have := h.t i hi
    rw [hb.cell (p := ⟨10, i, none⟩) (show 10 < w.heap.size from cell_lt this)]; exact this
  · have := h.f i hi
    rw [hb.cell (p := ⟨11, 2 * i, none⟩) (show 11 < w.heap.size from cell_lt this)]; exact this
  · have := h.g i hi
    rw [hb.cell (p := ⟨11, 2 * i + 1, none⟩) (show 11 < w.heap.size from cell_lt this)]; exact this

def tyW (t : Int) : List ByteArray := if t < 4 then [str (wordsT.getD t.toNat [])] else [str [116, 121, 112, 101], dg t]
set_option maxHeartbeats 2000000 in
theorem typeText_any (v t f s l : Int) (ht0 : 0 ≤ t) (ht1 : t ≤ 255) (w : World) (hw : Words w) :
    Calls Tryz.prog 37 #[hdr v t f s l] w fun e w' => ∃ x, e = .returned x ∧ Aside (OwnS w.heap.size w' x (tyW t)) ∧ Below w.heap.size w w' := by
  by_cases h4 : t < 4
  · have hT : ∀ w : World, Calls Tryz.prog 18 #[hdr v t f s l] w fun e w' => e = .returned (.bool true) ∧ w' = w.alloc (hbox v t f s l) := fun w => by simpa [h4] using typeMayBe_any v t f s l w ht0 ht1
    have hx : tyW t = [str (wordsT.getD t.toNat [])] := if_pos h4
    have hc := hw.t t.toNat (by omega)
    obtain ⟨ti, rfl⟩ := Int.eq_ofNat_of_zero_le ht0
    simp only [Int.toNat_natCast] at hc hx
    have hc' := fun o o' => cell_alloc o' (cell_alloc o hc)
    have HX := Aside.mk hx
    clear hx hw hc
    generalize wordsT.getD ti [] = wd at *
    go_enter Tryz.func37, Tryz.ntmps37
    go_wp2_with (go_at_call 18; refine (hT _).mono ?_; rintro e w1 ⟨rfl, rfl⟩)
    go_ret
    refine ⟨_, rfl, ⟨?_⟩, ?_⟩
    · rw [HX.it]
      have h := own_newS (B := w.heap.size) ((w.alloc (hbox v ti f s l)).alloc (hbox v ti f s l)) [str wd] 1 rfl (by simp; omega) (by decide)
      have hz : ((w.alloc (hbox v ti f s l)).alloc (hbox v ti f s l)).heap.size = w.heap.size + 1 + 1 := by simp
      rw [hz] at h
      exact h
    · repeat first | exact Below.refl _ _ | refine Below.alloc ?_ (by simp <;> omega) _
  · have hT : ∀ w : World, Calls Tryz.prog 18 #[hdr v t f s l] w fun e w' => e = .returned (.bool false) ∧ w' = w.alloc (hbox v t f s l) := fun w => by simpa [h4] using typeMayBe_any v t f s l w ht0 ht1
    have HX := Aside.mk (show tyW t = [str [116, 121, 112, 101], dg t] from if_neg h4)
    have D := Aside.mk (digits_any t ht0 (by omega) ((w.alloc (hbox v t f s l)).alloc (hbox v t f s l)) (hw.p.later (alloc2_below _ _ _)))
    clear hw
    go_enter Tryz.func37, Tryz.ntmps37
    go_wp2_with (first
      | (go_at_call 18; refine (hT _).mono ?_; rintro e w1 ⟨rfl, rfl⟩)
      | (go_at_call 38; refine D.it.mono ?_; rintro e w2 ⟨rfl, hb⟩))
    go_ret
    have hb' : Below w.heap.size w w2 := (alloc2_below w (hbox v t f s l) (hbox v t f s l)).trans (hb.mono (by simp; omega))
    refine ⟨_, rfl, ⟨?_⟩, hb'.alloc hb'.size _⟩
    rw [HX.it]
    exact own_newS (B := w.heap.size) w2 [str [116, 121, 112, 101], dg t] 2 rfl hb'.size (by decide)
end Go.Proofs.YtbbldkldgjmmgaaGreatDoor

/-
  package frame: flagsText.
-/
namespace Go.Proofs.YtbbldkldgjmmgaaGreatDoor
open Go.RowKit

/-- the words of the flags below the i-th -/
def flW (f : Int) : Nat → List ByteArray
  | 0 => []
  | i + 1 => flW f i ++ if bits .and .u16 f (2 ^ i : Nat) != 0 then [str (wordsF.getD i [])] else []
def fuW (f : Int) : List ByteArray := flW f 4 ++ if bits .andNot .u16 f 15 != 0 then [str [102, 108, 97, 103, 115], dg (bits .andNot .u16 f 15)] else []
theorem flW_len (f : Int) (i : Nat) : (flW f i).length ≤ i := by
  induction i with
  | zero => exact Nat.le_refl _
  | succ i ih =>
    simp only [flW, List.length_append]
    split <;> simp <;> omega
theorem rd_newS2 (w : World) (o : Obj) (ns : List ByteArray) (n : Nat) (hn : ns.length = n) : RdStr ((w.alloc o).alloc (.cells (ns.map Value.string).toArray 9)) (.slice (some ⟨w.heap.size + 1, 0, none⟩) n n) ns := by
  have h := rd_newS (w.alloc o) ns n hn
  have hz : (w.alloc o).heap.size = w.heap.size + 1 := by simp
  rwa [hz] at h
structure FlAt (w : World) (v t f s l : Int) (n : Nat) (words : Value) (wr : World) : Prop where
  o : OwnS (w.heap.size + 1) wr words (flW f n)
  h : HB w.heap.size v t f s l wr
  b : Below w.heap.size w wr
  z : w.heap.size + 1 ≤ wr.heap.size
theorem HB.under {p B : Nat} {v t f s l : Int} {w w' : World} (h : HB p v t f s l w) (hb : Below B w w') (hp : p < B) : HB p v t f s l w' :=
  ⟨(hb.cell (p := ⟨p, 0, none⟩) hp).trans h.1, (hb.cell (p := ⟨p, 1, none⟩) hp).trans h.2.1, (hb.cell (p := ⟨p, 2, none⟩) hp).trans h.2.2.1, (hb.cell (p := ⟨p, 3, none⟩) hp).trans h.2.2.2.1, (hb.cell (p := ⟨p, 4, none⟩) hp).trans h.2.2.2.2⟩
theorem FlAt.hit {w wr w4 : World} {v t f s l : Int} {n : Nat} {x x4 : Value} {o1 o2 : Obj} {wd : ByteArray} (h : FlAt w v t f s l n x wr) (hbit : (bits .and .u16 f (2 ^ n : Nat) != 0) = true) (hw : wd = str (wordsF.getD n []))
    (o4 : OwnS (w.heap.size + 1) w4 x4 (flW f n ++ [wd])) (k4 : Below (w.heap.size + 1) ((wr.alloc o1).alloc o2) w4) : FlAt w v t f s l (n + 1) x4 w4 := by
  have hb : Below (w.heap.size + 1) wr w4 := ((alloc2_below wr o1 o2).mono h.z).trans k4
  refine ⟨?_, h.h.under hb (by omega), h.b.trans (hb.mono (by omega)), Nat.le_trans h.z hb.size⟩
  simp only [flW]
  rw [if_pos hbit, ← hw]
  exact o4
theorem FlAt.miss {w wr : World} {v t f s l : Int} {n : Nat} {x : Value} {o1 : Obj} (h : FlAt w v t f s l n x wr) (hbit : ¬ (bits .and .u16 f (2 ^ n : Nat) != 0) = true) : FlAt w v t f s l (n + 1) x (wr.alloc o1) := by
  have hb := alloc_below wr o1
  refine ⟨?_, h.h.later hb, h.b.trans (hb.mono h.b.size), Nat.le_trans h.z hb.size⟩
  simp only [flW]
  rw [if_neg hbit, List.append_nil]
  exact h.o.later hb

set_option maxRecDepth 20000 in
set_option maxHeartbeats 4000000 in
theorem flagsText_any (v t f s l : Int) (hf0 : 0 ≤ bits .andNot .u16 f 15) (hf1 : bits .andNot .u16 f 15 ≤ 65535) (w : World) (hw : Words w) :
    Calls Tryz.prog 39 #[hdr v t f s l] w fun e w' => ∃ x, e = .returned x ∧ Aside (OwnS w.heap.size w' x (fuW f)) ∧ Below w.heap.size w w' := by
  have e0 := fun o => cell_alloc o (hw.f 0 (by decide))
  have e1 := fun o => cell_alloc o (hw.g 0 (by decide))
  have e2 := fun o => cell_alloc o (hw.f 1 (by decide))
  have e3 := fun o => cell_alloc o (hw.g 1 (by decide))
  have e4 := fun o => cell_alloc o (hw.f 2 (by decide))
  have e5 := fun o => cell_alloc o (hw.g 2 (by decide))
  have e6 := fun o => cell_alloc o (hw.f 3 (by decide))
  have e7 := fun o => cell_alloc o (hw.g 3 (by decide))
  simp only [Nat.mul_zero, Nat.zero_add, Nat.mul_one, Nat.reduceMul, Nat.reduceAdd, Nat.reducePow, Nat.pow_zero, wordsF, List.getD_cons_zero, List.getD_cons_succ] at e0 e1 e2 e3 e4 e5 e6 e7
  have hz : (w.alloc (hbox v t f s l)).heap.size = w.heap.size + 1 := by simp
  have S0 : Aside (FlAt w v t f s l 0 (.slice none 0 0) (w.alloc (hbox v t f s l))) := ⟨⟨World.ownsRow_nil _ _ _ _, HB.new w v t f s l, alloc_below _ _, by rw [hz]; exact Nat.le_refl _⟩⟩
  have W0 := Aside.mk hw
  clear hw hz
  go_enter Tryz.func39, Tryz.ntmps39
  go_wp2_with fail
  go_loopw [3, 8] (fun x y wr => ∃ (n : Nat) (k : Int), y = .int .i64 k ∧ Aside (k = (n : Int)) ∧ n ≤ 4 ∧ (∃ a l c, x = .slice a l c) ∧ Aside (FlAt w v t f s l n x wr)) (fun _ y _ => 4 - (intOf y).toNat)
  case atStart => exact ⟨0, 0, rfl, ⟨rfl⟩, by omega, ⟨_, _, _, rfl⟩, S0⟩
  case round =>
    obtain ⟨n, k, rfl, hk, hn, ⟨xa, xl, xc, rfl⟩, S1⟩ := hrel
    clear e0 e1 e2 e3 e4 e5 e6 e7
    by_cases h4 : n < 4
    · have c2 := fun o => cell_alloc o S1.it.h.2.2.1
      have hlen := Aside.mk (flW_len f n)
      match n, h4 with
      | 0, _ =>
        obtain rfl : k = 0 := hk.it
        have hix : ∀ W, (Instr.index 112 (.agg #[.int .u16 1, .string (str [115, 121, 110]), .int .u16 2, .string (str [97, 99, 107]), .int .u16 4, .string (str [102, 105, 110]), .int .u16 8, .string (str [114, 115, 116])]) (.int .i64 0)).run Tryz.prog W = .ok (.agg #[.int .u16 1, .string (str [115, 121, 110])]) W := fun _ => by kernel_rfl
        have O1 := fun o1 o2 => Aside.mk (S1.it.o.later (alloc2_below wr o1 o2))
        have Z1 : Aside (∀ o1 o2, w.heap.size + 1 ≤ ((wr.alloc o1).alloc o2).heap.size) := ⟨fun o1 o2 => Nat.le_trans S1.it.z (alloc2_below wr o1 o2).size⟩
        go_wp2_with (at_builtin; refine wpList_appendS rfl (.tmp 17) (.tmp 20) rfl (w.heap.size + 1) _ _ (flW f 0) [str [115, 121, 110]] (O1 _ _).it (rd_newS2 wr _ [str [115, 121, 110]] 1 rfl) (by have := hlen.it; simp only [List.length_singleton]; omega) (Z1.it _ _) rfl rfl ?_; intro x4 w4 o4 k4)
        · obtain ⟨pa, pc, hx4⟩ := o4.it.shape
          exact ⟨⟨1, 1, rfl, ⟨rfl⟩, by omega, ⟨_, _, _, hx4⟩, ⟨S1.it.hit (by simp_all) rfl o4.it k4.it⟩⟩, by decide⟩
        · exact ⟨⟨1, 1, rfl, ⟨rfl⟩, by omega, ⟨_, _, _, rfl⟩, ⟨S1.it.miss (by simp_all)⟩⟩, by decide⟩
      | 1, _ =>
        obtain rfl : k = 1 := hk.it
        have hix : ∀ W, (Instr.index 112 (.agg #[.int .u16 1, .string (str [115, 121, 110]), .int .u16 2, .string (str [97, 99, 107]), .int .u16 4, .string (str [102, 105, 110]), .int .u16 8, .string (str [114, 115, 116])]) (.int .i64 1)).run Tryz.prog W = .ok (.agg #[.int .u16 2, .string (str [97, 99, 107])]) W := fun _ => by kernel_rfl
        have O1 := fun o1 o2 => Aside.mk (S1.it.o.later (alloc2_below wr o1 o2))
        have Z1 : Aside (∀ o1 o2, w.heap.size + 1 ≤ ((wr.alloc o1).alloc o2).heap.size) := ⟨fun o1 o2 => Nat.le_trans S1.it.z (alloc2_below wr o1 o2).size⟩
        go_wp2_with (at_builtin; refine wpList_appendS rfl (.tmp 17) (.tmp 20) rfl (w.heap.size + 1) _ _ (flW f 1) [str [97, 99, 107]] (O1 _ _).it (rd_newS2 wr _ [str [97, 99, 107]] 1 rfl) (by have := hlen.it; simp only [List.length_singleton]; omega) (Z1.it _ _) rfl rfl ?_; intro x4 w4 o4 k4)
        · obtain ⟨pa, pc, hx4⟩ := o4.it.shape
          exact ⟨⟨2, 2, rfl, ⟨rfl⟩, by omega, ⟨_, _, _, hx4⟩, ⟨S1.it.hit (by simp_all) rfl o4.it k4.it⟩⟩, by decide⟩
        · exact ⟨⟨2, 2, rfl, ⟨rfl⟩, by omega, ⟨_, _, _, rfl⟩, ⟨S1.it.miss (by simp_all)⟩⟩, by decide⟩
      | 2, _ =>
        obtain rfl : k = 2 := hk.it
        have hix : ∀ W, (Instr.index 112 (.agg #[.int .u16 1, .string (str [115, 121, 110]), .int .u16 2, .string (str [97, 99, 107]), .int .u16 4, .string (str [102, 105, 110]), .int .u16 8, .string (str [114, 115, 116])]) (.int .i64 2)).run Tryz.prog W = .ok (.agg #[.int .u16 4, .string (str [102, 105, 110])]) W := fun _ => by kernel_rfl
        have O1 := fun o1 o2 => Aside.mk (S1.it.o.later (alloc2_below wr o1 o2))
        have Z1 : Aside (∀ o1 o2, w.heap.size + 1 ≤ ((wr.alloc o1).alloc o2).heap.size) := ⟨fun o1 o2 => Nat.le_trans S1.it.z (alloc2_below wr o1 o2).size⟩
        go_wp2_with (at_builtin; refine wpList_appendS rfl (.tmp 17) (.tmp 20) rfl (w.heap.size + 1) _ _ (flW f 2) [str [102, 105, 110]] (O1 _ _).it (rd_newS2 wr _ [str [102, 105, 110]] 1 rfl) (by have := hlen.it; simp only [List.length_singleton]; omega) (Z1.it _ _) rfl rfl ?_; intro x4 w4 o4 k4)
        · obtain ⟨pa, pc, hx4⟩ := o4.it.shape
          exact ⟨⟨3, 3, rfl, ⟨rfl⟩, by omega, ⟨_, _, _, hx4⟩, ⟨S1.it.hit (by simp_all) rfl o4.it k4.it⟩⟩, by decide⟩
        · exact ⟨⟨3, 3, rfl, ⟨rfl⟩, by omega, ⟨_, _, _, rfl⟩, ⟨S1.it.miss (by simp_all)⟩⟩, by decide⟩
      | 3, _ =>
        obtain rfl : k = 3 := hk.it
        have hix : ∀ W, (Instr.index 112 (.agg #[.int .u16 1, .string (str [115, 121, 110]), .int .u16 2, .string (str [97, 99, 107]), .int .u16 4, .string (str [102, 105, 110]), .int .u16 8, .string (str [114, 115, 116])]) (.int .i64 3)).run Tryz.prog W = .ok (.agg #[.int .u16 8, .string (str [114, 115, 116])]) W := fun _ => by kernel_rfl
        have O1 := fun o1 o2 => Aside.mk (S1.it.o.later (alloc2_below wr o1 o2))
        have Z1 : Aside (∀ o1 o2, w.heap.size + 1 ≤ ((wr.alloc o1).alloc o2).heap.size) := ⟨fun o1 o2 => Nat.le_trans S1.it.z (alloc2_below wr o1 o2).size⟩
        go_wp2_with (at_builtin; refine wpList_appendS rfl (.tmp 17) (.tmp 20) rfl (w.heap.size + 1) _ _ (flW f 3) [str [114, 115, 116]] (O1 _ _).it (rd_newS2 wr _ [str [114, 115, 116]] 1 rfl) (by have := hlen.it; simp only [List.length_singleton]; omega) (Z1.it _ _) rfl rfl ?_; intro x4 w4 o4 k4)
        · obtain ⟨pa, pc, hx4⟩ := o4.it.shape
          exact ⟨⟨4, 4, rfl, ⟨rfl⟩, by omega, ⟨_, _, _, hx4⟩, ⟨S1.it.hit (by simp_all) rfl o4.it k4.it⟩⟩, by decide⟩
        · exact ⟨⟨4, 4, rfl, ⟨rfl⟩, by omega, ⟨_, _, _, rfl⟩, ⟨S1.it.miss (by simp_all)⟩⟩, by decide⟩
    · obtain rfl : n = 4 := by omega
      obtain rfl : k = 4 := hk.it
      have c2 := S1.it.h.2.2.1
      have hlen := Aside.mk (flW_len f 4)
      by_cases hA : (bits .andNot .u16 f 15 != 0) = true
      · have E := Aside.mk (show fuW f = flW f 4 ++ [str [102, 108, 97, 103, 115], dg (bits .andNot .u16 f 15)] by simp only [fuW]; rw [if_pos hA])
        have D := Aside.mk (digits_any (bits .andNot .u16 f 15) hf0 (by omega) wr (W0.it.later S1.it.b).p)
        go_wp2_with (first
          | (go_at_call 38; refine D.it.mono ?_; rintro e w2 ⟨rfl, hb⟩; have O2 := Aside.mk (S1.it.o.later (hb.alloc hb.size (.cells #[.string (str [102, 108, 97, 103, 115]), .string (dg (bits .andNot .u16 f 15))] 9))); have Z2 : Aside (w.heap.size + 1 ≤ (w2.alloc (.cells #[.string (str [102, 108, 97, 103, 115]), .string (dg (bits .andNot .u16 f 15))] 9)).heap.size) := ⟨by have h1 := S1.it.z; have h2 := hb.size; simp; omega⟩; have HB2 := Aside.mk hb; clear hb)
          | (at_builtin; refine wpList_appendS rfl (.tmp 28) (.tmp 32) rfl (w.heap.size + 1) _ _ (flW f 4) [str [102, 108, 97, 103, 115], dg (bits .andNot .u16 f 15)] O2.it (rd_newS w2 [str [102, 108, 97, 103, 115], dg (bits .andNot .u16 f 15)] 2 rfl) (by have := hlen.it; simp only [List.length_cons, List.length_nil]; omega) Z2.it rfl rfl ?_; intro x4 w4 o4 k4))
        go_ret
        refine ⟨_, rfl, ⟨by rw [E.it]; exact o4.it.mono (by omega)⟩, ?_⟩
        exact S1.it.b.trans ((HB2.it.alloc HB2.it.size _).mono (by have := S1.it.z; omega) |>.trans (k4.it.mono (by omega)))
      · have E := Aside.mk (show fuW f = flW f 4 by simp only [fuW]; rw [if_neg hA, List.append_nil])
        have hA' : (bits .andNot .u16 f 15 != 0) = false := by simpa using hA
        go_wp2_with fail
        go_ret
        exact ⟨_, rfl, ⟨by rw [E.it]; exact S1.it.o.mono (by omega)⟩, S1.it.b⟩
end Go.Proofs.YtbbldkldgjmmgaaGreatDoor

/-
  the document's Text.
-/
namespace Go.Proofs.YtbbldkldgjmmgaaGreatDoor
open Go.RowKit

theorem str_append (a b : List UInt8) : str a ++ str b = str (a ++ b) := by
  apply ByteArray.ext
  rw [ByteArray.data_append]
  simp
theorem one_str (W : World) (x : Int) : (convert 32 9 (.slice (some ⟨W.heap.size, 0, none⟩) 1 1)).run Tryz.prog (W.alloc (.cells #[.int .u8 x] 5)) = .ok (.string (str [UInt8.ofNat x.toNat])) (W.alloc (.cells #[.int .u8 x] 5)) :=
  run_bytesStr (P := Tryz.prog) (W.alloc (.cells #[.int .u8 x] 5)) 32 9 5 _ [x] Tryz.underlying32 Tryz.underlying5 Tryz.underlying9 (holds_new W [x] 5 1 rfl)

def flB (f b : Int) (wd : List UInt8) : List UInt8 := if bits .and .u16 f b = 0 then [] else 32 :: wd
def kiB (t : Int) : List UInt8 := if t < 4 then wordsT.getD t.toNat [] else [116, 121, 112, 101, 32] ++ Lib.decDigits t.toNat
theorem dd_len (n : Int) (h : n ≤ 4294967295) : (Lib.decDigits n.toNat).length ≤ 20 := by
  rw [Lib.decDigits_length]
  exact Lib.nDigits_le20 _ (by omega)
theorem kiB_len (t : Int) (ht0 : 0 ≤ t) (ht1 : t ≤ 255) : (kiB t).length ≤ 30 := by
  unfold kiB
  split
  · rcases (show t = 0 ∨ t = 1 ∨ t = 2 ∨ t = 3 by omega) with rfl | rfl | rfl | rfl <;> decide
  · have := dd_len t (by omega)
    simp
    omega
end Go.Proofs.YtbbldkldgjmmgaaGreatDoor

/-
  the document's Text: the walk.
-/
namespace Go.Proofs.YtbbldkldgjmmgaaGreatDoor
open Go.RowKit

theorem flB_len (f b : Int) (wd : List UInt8) : (flB f b wd).length ≤ wd.length + 1 := by unfold flB; split <;> simp
def flsB (f : Int) : List UInt8 := flB f 1 [115, 121, 110] ++ flB f 2 [97, 99, 107] ++ flB f 4 [102, 105, 110] ++ flB f 8 [114, 115, 116]
def furB (f : Int) : List UInt8 := if 15 < f then [32, 102, 108, 97, 103, 115, 32] ++ Lib.decDigits (f / 16 * 16).toNat else []
def verB (v : Int) : List UInt8 := if v = 0 then [] else [32, 118, 101, 114, 115, 105, 111, 110, 32] ++ Lib.decDigits v.toNat
def endB (s l : Int) : List UInt8 := [32, 115, 116, 114, 101, 97, 109, 32] ++ Lib.decDigits s.toNat ++ [32, 108, 101, 110, 103, 116, 104, 32] ++ Lib.decDigits l.toNat
def txB (v t f s l : Int) : List UInt8 := kiB t ++ verB v ++ flsB f ++ furB f ++ endB s l

structure RxAt (w : World) (v t f s l : Int) (wr : World) : Prop where
  h : HB w.heap.size v t f s l wr
  b : Below w.heap.size w wr
section
variable {w : World} {v t f s l : Int}
theorem RxAt.later {wr w' : World} (h : RxAt w v t f s l wr) (hb : Below wr.heap.size wr w') : RxAt w v t f s l w' := ⟨h.h.later hb, h.b.trans (hb.mono h.b.size)⟩
theorem RxAt.cells {wr : World} (h : Aside (RxAt w v t f s l wr)) : wr.cell? ⟨w.heap.size, 3, none⟩ = some (.int .u32 s) ∧ wr.cell? ⟨w.heap.size, 4, none⟩ = some (.int .u32 l) := ⟨h.it.h.2.2.2.1, h.it.h.2.2.2.2⟩
end

end Go.Proofs.YtbbldkldgjmmgaaGreatDoor

/-
  package frame: Text.
-/
namespace Go.Proofs.YtbbldkldgjmmgaaGreatDoor
open Go.RowKit

def verW (v : Int) : List ByteArray := if v = 0 then [] else [str [118, 101, 114, 115, 105, 111, 110], dg v]
def txW (v t f s l : Int) : List ByteArray := ((tyW t ++ verW v) ++ fuW f) ++ [str [115, 116, 114, 101, 97, 109], dg s, str [108, 101, 110, 103, 116, 104], dg l]
theorem fuW_len (f : Int) : (fuW f).length ≤ 6 := by
  have := flW_len f 4
  simp only [fuW, List.length_append]
  split <;> simp <;> omega
theorem tyW_len (t : Int) : (tyW t).length ≤ 2 := by unfold tyW; split <;> simp
theorem verW_len (v : Int) : (verW v).length ≤ 2 := by unfold verW; split <;> simp

theorem OwnS.shape3 {B : Nat} {w : World} {v : Value} {ns : List ByteArray} (h : OwnS B w v ns) : ∃ p l c, v = .slice p l c := by
  obtain ⟨p, c, e⟩ := h.shape
  exact ⟨p, _, c, e⟩
structure TxAt (w : World) (v t f s l : Int) (xs : List ByteArray) (words : Value) (wr : World) : Prop where
  o : OwnS (w.heap.size + 1) wr words xs
  h : HB w.heap.size v t f s l wr
  b : Below w.heap.size w wr
  z : w.heap.size + 1 ≤ wr.heap.size
  n : xs.length ≤ 100
section
variable {w : World} {v t f s l : Int} {xs : List ByteArray} {words : Value}
theorem TxAt.later {wr w' : World} (h : TxAt w v t f s l xs words wr) (hb : Below wr.heap.size wr w') : TxAt w v t f s l xs words w' := ⟨h.o.later hb, h.h.later hb, h.b.trans (hb.mono h.b.size), Nat.le_trans h.z hb.size, h.n⟩
theorem TxAt.grown {wr w' : World} {ys : List ByteArray} {x' : Value} (h : TxAt w v t f s l xs words wr) (o : OwnS (w.heap.size + 1) w' x' ys) (hb : Below (w.heap.size + 1) wr w') (hn : ys.length ≤ 100) : TxAt w v t f s l ys x' w' :=
  ⟨o, h.h.under hb (by omega), h.b.trans (hb.mono (by omega)), Nat.le_trans h.z hb.size, hn⟩
theorem digits_t (W0 : Words w) (n : Int) (h0 : 0 ≤ n) (h1 : n ≤ 4294967295) (W : World) (h : Aside (TxAt w v t f s l xs words W)) :
    Calls Tryz.prog 38 #[.int .u32 n] W fun e w' => e = .returned (.string (dg n)) ∧ Aside (TxAt w v t f s l xs words w') :=
  (digits_any n h0 h1 W (W0.later h.it.b).p).mono (by rintro e w' ⟨rfl, hb⟩; exact ⟨rfl, ⟨h.it.later hb⟩⟩)
theorem flags_t (W0 : Words w) (hf0 : 0 ≤ bits .andNot .u16 f 15) (hf1 : bits .andNot .u16 f 15 ≤ 65535) (W : World) (h : Aside (TxAt w v t f s l xs words W)) :
    Calls Tryz.prog 39 #[hdr v t f s l] W fun e w' => ∃ p c, e = .returned (.slice p (fuW f).length c) ∧ Aside (RdStr w' (.slice p (fuW f).length c) (fuW f)) ∧ Aside (TxAt w v t f s l xs words w') := by
  refine (flagsText_any v t f s l hf0 hf1 W (W0.later h.it.b)).mono ?_
  rintro e w' ⟨x, rfl, o, hb⟩
  obtain ⟨p, c, rfl⟩ := o.it.shape
  exact ⟨p, c, rfl, ⟨o.it.rd⟩, ⟨h.it.later hb⟩⟩
theorem TxAt.cellsA {wr : World} {o : Obj} (h : Aside (TxAt w v t f s l xs words wr)) : (wr.alloc o).cell? ⟨w.heap.size, 3, none⟩ = some (.int .u32 s) ∧ (wr.alloc o).cell? ⟨w.heap.size, 4, none⟩ = some (.int .u32 l) :=
  ⟨cell_alloc o h.it.h.2.2.2.1, cell_alloc o h.it.h.2.2.2.2⟩
theorem TxAt.ownA {wr : World} {o : Obj} (h : Aside (TxAt w v t f s l xs words wr)) : OwnS (w.heap.size + 1) (wr.alloc o) words xs := h.it.o.later (alloc_below _ _)
theorem TxAt.zA {wr : World} {o : Obj} (h : Aside (TxAt w v t f s l xs words wr)) : w.heap.size + 1 ≤ (wr.alloc o).heap.size := Nat.le_trans h.it.z (alloc_below wr o).size
theorem TxAt.room {wr : World} {a b c d : ByteArray} (h : Aside (TxAt w v t f s l xs words wr)) : (xs.length + [a, b, c, d].length) * 16 ≤ 140737488355328 := by
  have := h.it.n
  simp only [List.length_cons, List.length_nil]
  omega
theorem TxAt.stepped {wr w8 : World} {o : Obj} {a b c d : ByteArray} {x8 : Value} (o8 : Aside (OwnS (w.heap.size + 1) w8 x8 (xs ++ [a, b, c, d]))) (k8 : Aside (Below (w.heap.size + 1) (wr.alloc o) w8)) (hn : xs.length ≤ 90) (h : Aside (TxAt w v t f s l xs words wr)) :
    Aside (TxAt w v t f s l (xs ++ [a, b, c, d]) x8 w8) := by
  refine ⟨h.it.grown o8.it (((alloc_below wr o).mono h.it.z).trans k8.it) ?_⟩
  simp only [List.length_append, List.length_cons, List.length_nil]
  omega
theorem join_t {wr : World} {ys : List ByteArray} {x : Value} (h : TxAt w v t f s l ys x wr) (hp : 0 < ys.length) (hjl : (Lib.join (ys.map (·.data.toList)) [32]).length ≤ 140737488355328) :
    ∃ g n c, x = .slice (some ⟨g, 0, none⟩) n c ∧ Aside (Calls Tryz.prog 40 #[.slice (some ⟨g, 0, none⟩) n c, .string (str [32])] wr fun e w' => e = .returned (.string (str (Lib.join (ys.map (·.data.toList)) [32]))) ∧ Aside (Below w.heap.size w w')) := by
  rcases id h.o.2 with ⟨_, h0⟩ | ⟨g, c, cur, hx, hb, hg, hn, _⟩
  · omega
  · refine ⟨g, _, c, hx, ⟨?_⟩⟩
    have hc : ∀ j u, (strv ys)[j]? = some u → wr.cell? ⟨g, 0 + j, none⟩ = some u := fun j u hj => by
      have := h.o.cells (g := g) (by rw [hx]; rfl) j u hj
      rwa [add_none] at this
    have hJ := Tryz.strings_Join g 0 c ys (str [32]) wr (fun j x hj => hc j (.string x) (by simp [strv, hj])) (Array.getElem?_eq_some_iff.1 hg).1 (by have := h.n; omega) hn hjl
    exact hJ.mono (by rintro e w' ⟨rfl, hb'⟩; exact ⟨rfl, ⟨h.b.trans (hb'.mono h.b.size)⟩⟩)
theorem TxAt.cells {wr : World} (h : Aside (TxAt w v t f s l xs words wr)) : wr.cell? ⟨w.heap.size, 3, none⟩ = some (.int .u32 s) ∧ wr.cell? ⟨w.heap.size, 4, none⟩ = some (.int .u32 l) := ⟨h.it.h.2.2.2.1, h.it.h.2.2.2.2⟩
end

set_option maxRecDepth 20000 in
set_option maxHeartbeats 1500000 in
theorem text_walk (v t f s l : Int) (hv0 : 0 ≤ v) (hv1 : v ≤ 255) (ht0 : 0 ≤ t) (ht1 : t ≤ 255) (hf0 : 0 ≤ bits .andNot .u16 f 15) (hf1 : bits .andNot .u16 f 15 ≤ 65535) (hs0 : 0 ≤ s) (hs1 : s ≤ 4294967295) (hl0 : 0 ≤ l) (hl1 : l ≤ 4294967295)
    (w : World) (hw : Words w) (hjl : (Lib.join ((txW v t f s l).map (·.data.toList)) [32]).length ≤ 140737488355328) :
    Calls Tryz.prog 15 #[hdr v t f s l] w fun e w' => e = .returned (.string (str (Lib.join ((txW v t f s l).map (·.data.toList)) [32]))) ∧ Below w.heap.size w w' := by
  have hz : (w.alloc (hbox v t f s l)).heap.size = w.heap.size + 1 := by simp
  have T1 := Aside.mk (typeText_any v t f s l ht0 ht1 (w.alloc (hbox v t f s l)) (hw.later (alloc_below _ _)))
  have W0 := Aside.mk hw
  have H0 := Aside.mk (HB.new w v t f s l)
  have JL := Aside.mk hjl
  have HZ := Aside.mk hz
  clear hw hjl hz
  go_enter Tryz.func15, Tryz.ntmps15
  go_wp2_with fail
  refine T1.it.mono ?_
  rintro e w1 ⟨x1, rfl, O1, K1⟩
  have S1 : Aside (TxAt w v t f s l (tyW t) x1 w1) := ⟨⟨O1.it.mono (by rw [HZ.it]; exact Nat.le_refl _), H0.it.later K1, (alloc_below _ _).trans (K1.mono (by rw [HZ.it]; omega)), by have := K1.size; have := HZ.it; omega, by have := tyW_len t; omega⟩⟩
  obtain ⟨p1, c1, hx1⟩ := O1.it.shape
  subst hx1
  have g0 := S1.it.h.1
  clear K1 O1 T1 H0
  by_cases hv : v = 0
  · have hv' : (v != 0) = false := by simp [hv]
    have e2 : tyW t ++ verW v = tyW t := by simp [verW, hv]
    have S2 : Aside (TxAt w v t f s l (tyW t ++ verW v) (.slice p1 (tyW t).length c1) w1) := ⟨by rw [e2]; exact S1.it⟩
    clear e2
    clear hv S1
    have g0 := S2.it.h.1
    have g1 := S2.it.h.2.1
    have g2 := S2.it.h.2.2.1
    have g3 := S2.it.h.2.2.2.1
    have g4 := S2.it.h.2.2.2.2
    go_wp2_with fail
    have F4 := flags_t (v := v) (t := t) (s := s) (l := l) (xs := tyW t ++ verW v) W0.it hf0 hf1 w1 S2
    refine F4.mono ?_
    rintro e w4 ⟨p4, c4, rfl, R4, S4⟩
    clear F4
    go_wp2_with (at_builtin; refine wpList_appendS rfl (.tmp 16) (.tmp 18) rfl (w.heap.size + 1) _ _ (tyW t ++ verW v) (fuW f) S4.it.o R4.it (by have h1 := S4.it.n; have h2 := fuW_len f; omega) S4.it.z rfl rfl ?_; intro x5 w5 o5 k5)
    have S5 : Aside (TxAt w v t f s l ((tyW t ++ verW v) ++ fuW f) x5 w5) := ⟨S4.it.grown o5.it k5.it (by have h1 := tyW_len t; have h2 := verW_len v; have h3 := fuW_len f; simp only [List.length_append]; omega)⟩
    obtain ⟨p5, l5, c5, hx5⟩ := o5.it.shape3
    subst hx5
    have S5d : Aside (TxAt w v t f s l ((tyW t ++ verW v) ++ fuW f) (.slice p5 l5 c5) w5.drew) := ⟨S5.it.later (Below.refl _ _).drew⟩
    clear o5 k5 S5 R4 S4
    go_region_held_law (fun w' => w'.cell? ⟨w.heap.size, 3, none⟩ = some (.int .u32 s) ∧ w'.cell? ⟨w.heap.size, 4, none⟩ = some (.int .u32 l))
      (first | exact TxAt.cells (by assumption) | exact TxAt.cellsA (by assumption)) (first
      | (go_at_call 38; refine (digits_t (v := v) (t := t) (f := f) (s := s) (l := l) (xs := ((tyW t ++ verW v) ++ fuW f)) (words := .slice p5 l5 c5) W0.it _ (by assumption) (by assumption) _ (by assumption)).mono ?_; rintro e w6 ⟨rfl, S6⟩)
      | (refine step_appendS 28 rfl rfl (.tmp 20) (.tmp 27) rfl (w.heap.size + 1) _ _ ((tyW t ++ verW v) ++ fuW f) [str [115, 116, 114, 101, 97, 109], dg s, str [108, 101, 110, 103, 116, 104], dg l] (TxAt.ownA (by assumption)) (rd_newS _ [str [115, 116, 114, 101, 97, 109], dg s, str [108, 101, 110, 103, 116, 104], dg l] 4 rfl) (TxAt.room (by assumption)) (TxAt.zA (by assumption)) rfl rfl ?_; intro x8 w8 o8 k8; have S8 := TxAt.stepped o8 k8 (by have h1 := tyW_len t; have h2 := verW_len v; have h3 := fuW_len f; simp only [List.length_append]; omega) (by assumption)))
    obtain ⟨g8, n8, c8, hx8, J⟩ := join_t S8.it (by simp only [List.length_append, List.length_cons]; omega) JL.it
    subst hx8
    go_wp2_with (go_at_call 40; refine J.it.mono ?_; rintro e w9 ⟨rfl, hb9⟩)
    go_ret
    refine ⟨?_, hb9.it⟩
    simp [txW]
  · have hv' : (v != 0) = true := by simp [hv]
    have EV := Aside.mk (show verW v = [str [118, 101, 114, 115, 105, 111, 110], dg v] from if_neg hv)
    have D2 := Aside.mk (digits_t (v := v) (t := t) (f := f) (s := s) (l := l) (xs := tyW t) (words := .slice p1 (tyW t).length c1) W0.it v hv0 (by omega) w1 S1)
    clear hv
    go_wp2_with (first
      | (go_at_call 38; refine D2.it.mono ?_; rintro e w2 ⟨rfl, S2⟩; have S2a := Aside.mk (S2.it.later (alloc_below w2 (.cells #[.string (str [118, 101, 114, 115, 105, 111, 110]), .string (dg v)] 9))))
      | (have _u := S2a; clear _u; at_builtin; refine wpList_appendS rfl (.tmp 9) (.tmp 14) rfl (w.heap.size + 1) _ _ (tyW t) [str [118, 101, 114, 115, 105, 111, 110], dg v] S2a.it.o (rd_newS w2 [str [118, 101, 114, 115, 105, 111, 110], dg v] 2 rfl) (by have h1 := S2a.it.n; simp only [List.length_cons, List.length_nil]; omega) S2a.it.z rfl rfl ?_; intro x3 w3 o3 k3
         have S3 : Aside (TxAt w v t f s l (tyW t ++ verW v) x3 w3) := ⟨by rw [EV.it]; exact S2a.it.grown o3.it k3.it (by have h1 := tyW_len t; simp only [List.length_append, List.length_cons, List.length_nil]; omega)⟩
         obtain ⟨p3, l3, c3, hx3⟩ := S3.it.o.shape3
         subst hx3
         have h0 := S3.it.h.1
         have h1 := S3.it.h.2.1
         have h2 := S3.it.h.2.2.1
         have h3 := S3.it.h.2.2.2.1
         have h4 := S3.it.h.2.2.2.2))
    have F4 := flags_t (v := v) (t := t) (s := s) (l := l) (xs := tyW t ++ verW v) W0.it hf0 hf1 w3 S3
    refine F4.mono ?_
    rintro e w4 ⟨p4, c4, rfl, R4, S4⟩
    clear F4
    go_wp2_with (at_builtin; refine wpList_appendS rfl (.tmp 16) (.tmp 18) rfl (w.heap.size + 1) _ _ (tyW t ++ verW v) (fuW f) S4.it.o R4.it (by have h1 := S4.it.n; have h2 := fuW_len f; omega) S4.it.z rfl rfl ?_; intro x5 w5 o5 k5)
    have S5 : Aside (TxAt w v t f s l ((tyW t ++ verW v) ++ fuW f) x5 w5) := ⟨S4.it.grown o5.it k5.it (by have h1 := tyW_len t; have h2 := verW_len v; have h3 := fuW_len f; simp only [List.length_append]; omega)⟩
    obtain ⟨p5, l5, c5, hx5⟩ := o5.it.shape3
    subst hx5
    have S5d : Aside (TxAt w v t f s l ((tyW t ++ verW v) ++ fuW f) (.slice p5 l5 c5) w5.drew) := ⟨S5.it.later (Below.refl _ _).drew⟩
    clear o5 k5 S5 R4 S4
    go_region_held_law (fun w' => w'.cell? ⟨w.heap.size, 3, none⟩ = some (.int .u32 s) ∧ w'.cell? ⟨w.heap.size, 4, none⟩ = some (.int .u32 l))
      (first | exact TxAt.cells (by assumption) | exact TxAt.cellsA (by assumption)) (first
      | (go_at_call 38; refine (digits_t (v := v) (t := t) (f := f) (s := s) (l := l) (xs := ((tyW t ++ verW v) ++ fuW f)) (words := .slice p5 l5 c5) W0.it _ (by assumption) (by assumption) _ (by assumption)).mono ?_; rintro e w6 ⟨rfl, S6⟩)
      | (refine step_appendS 28 rfl rfl (.tmp 20) (.tmp 27) rfl (w.heap.size + 1) _ _ ((tyW t ++ verW v) ++ fuW f) [str [115, 116, 114, 101, 97, 109], dg s, str [108, 101, 110, 103, 116, 104], dg l] (TxAt.ownA (by assumption)) (rd_newS _ [str [115, 116, 114, 101, 97, 109], dg s, str [108, 101, 110, 103, 116, 104], dg l] 4 rfl) (TxAt.room (by assumption)) (TxAt.zA (by assumption)) rfl rfl ?_; intro x8 w8 o8 k8; have S8 := TxAt.stepped o8 k8 (by have h1 := tyW_len t; have h2 := verW_len v; have h3 := fuW_len f; simp only [List.length_append]; omega) (by assumption)))
    obtain ⟨g8, n8, c8, hx8, J⟩ := join_t S8.it (by simp only [List.length_append, List.length_cons]; omega) JL.it
    subst hx8
    go_wp2_with (go_at_call 40; refine J.it.mono ?_; rintro e w9 ⟨rfl, hb9⟩)
    go_ret
    refine ⟨?_, hb9.it⟩
    simp [txW]
end Go.Proofs.YtbbldkldgjmmgaaGreatDoor

/-
  The two texts are one.
-/
namespace Go.Proofs.YtbbldkldgjmmgaaGreatDoor
open Go.RowKit Go.Lib

theorem and_high (n : Nat) (h : n < 65536) : n &&& 65520 = n / 16 * 16 := by
  have e1 : n / 16 * 16 = (n >>> 4) <<< 4 := by rw [Nat.shiftLeft_eq, Nat.shiftRight_eq_div_pow]
  have e2 : (65520 : Nat) = (2 ^ 12 - 1) <<< 4 := by decide
  rw [e1, e2]
  apply Nat.eq_of_testBit_eq
  intro i
  rw [Nat.testBit_and, Nat.testBit_shiftLeft, Nat.testBit_shiftLeft, Nat.testBit_two_pow_sub_one, Nat.testBit_shiftRight]
  by_cases h4 : 4 ≤ i
  · have e3 : 4 + (i - 4) = i := by omega
    rw [e3]
    by_cases h16 : i < 16
    · simp [h4, show i - 4 < 12 by omega]
    · have : n.testBit i = false := Nat.testBit_lt_two_pow (Nat.lt_of_lt_of_le h (show 2 ^ 16 ≤ 2 ^ i from Nat.pow_le_pow_right (by decide) (by omega)))
      simp [this]
  · simp [h4]
theorem andNot15 (f : Int) (h0 : 0 ≤ f) (h1 : f ≤ 65535) : bits .andNot .u16 f 15 = f / 16 * 16 := by
  rw [u16_andNot f 15 h0 (by omega) (by decide) (by decide)]
  obtain ⟨u, rfl⟩ := Int.eq_ofNat_of_zero_le h0
  have := and_high u (by omega)
  have e : (65535 - (15 : Int).toNat) = 65520 := by decide
  rw [e, Int.toNat_natCast, this]
  omega
theorem jt_append (sep : List UInt8) (a b : List (List UInt8)) : joinTail sep (a ++ b) = joinTail sep a ++ joinTail sep b := by simp [joinTail]
theorem join_append (x : List UInt8) (r b : List (List UInt8)) (sep : List UInt8) : join ((x :: r) ++ b) sep = join (x :: r) sep ++ joinTail sep b := by
  rw [List.cons_append, join_cons, join_cons, jt_append, List.append_assoc]
def bs (l : List ByteArray) : List (List UInt8) := l.map (·.data.toList)
theorem bs_append (a b : List ByteArray) : bs (a ++ b) = bs a ++ bs b := by simp [bs]
theorem dg_bytes (n : Int) : (dg n).data.toList = decDigits n.toNat := by simp [dg]
theorem ty_join (t : Int) : ∃ x r, bs (tyW t) = x :: r ∧ join (bs (tyW t)) [32] = kiB t := by
  unfold tyW kiB
  split
  · exact ⟨_, [], rfl, by simp [bs, join_one]⟩
  · exact ⟨_, _, rfl, by simp [bs, join_cons, joinTail, dg_bytes]⟩
theorem ver_join (v : Int) : joinTail [32] (bs (verW v)) = verB v := by
  unfold verW verB
  split
  · rfl
  · simp [bs, joinTail, dg_bytes]
theorem fl_join (f : Int) : joinTail [32] (bs (flW f 4)) = flsB f := by
  simp only [flW, bs_append, jt_append, flsB]
  have key : ∀ (b : Int) (i : Nat) (wd : List UInt8), joinTail [32] (bs (if bits .and .u16 f b != 0 then [str wd] else [])) = flB f b wd := by
    intro b i wd
    by_cases h : bits .and .u16 f b = 0 <;> simp [flB, h, bs, joinTail]
  have e0 : joinTail [32] (bs []) = [] := rfl
  rw [e0, List.nil_append]
  have k0 := key 1 0 [115, 121, 110]
  have k1 := key 2 0 [97, 99, 107]
  have k2 := key 4 0 [102, 105, 110]
  have k3 := key 8 0 [114, 115, 116]
  rw [← k0, ← k1, ← k2, ← k3]
  rfl
theorem fur_join (f : Int) (h0 : 0 ≤ f) (h1 : f ≤ 65535) : joinTail [32] (bs (fuW f)) = flsB f ++ furB f := by
  unfold fuW
  rw [bs_append, jt_append, fl_join, andNot15 f h0 h1]
  congr 1
  unfold furB
  by_cases h : 15 < f
  · have h2 : (f / 16 * 16 != 0) = true := by
      have : f / 16 * 16 ≠ 0 := by omega
      simpa using this
    rw [if_pos h, if_pos h2]
    simp [bs, joinTail, dg_bytes]
  · have h2 : ¬ (f / 16 * 16 != 0) = true := by
      have : f / 16 * 16 = 0 := by omega
      simp [this]
    rw [if_neg h, if_neg h2]
    rfl
theorem text_eq (v t f s l : Int) (h0 : 0 ≤ f) (h1 : f ≤ 65535) : join ((txW v t f s l).map (·.data.toList)) [32] = txB v t f s l := by
  show join (bs (txW v t f s l)) [32] = _
  obtain ⟨x, r, hx, hj⟩ := ty_join t
  unfold txW txB
  rw [bs_append, bs_append, bs_append, List.append_assoc, List.append_assoc, hx, join_append, ← hx, hj, jt_append, jt_append, ver_join, fur_join f h0 h1]
  simp [bs, joinTail, dg_bytes, endB]
theorem txB_len (v t f s l : Int) (hv1 : v ≤ 255) (ht0 : 0 ≤ t) (ht1 : t ≤ 255) (hf1 : f ≤ 65535) (hs1 : s ≤ 4294967295) (hl1 : l ≤ 4294967295) : (txB v t f s l).length ≤ 1000 := by
  have hk := kiB_len t ht0 ht1
  have hdv := dd_len v (by omega)
  have hdf := dd_len (f / 16 * 16) (by omega)
  have hds := dd_len s hs1
  have hdl := dd_len l hl1
  have a1 := flB_len f 1 [115, 121, 110]
  have a2 := flB_len f 2 [97, 99, 107]
  have a3 := flB_len f 4 [102, 105, 110]
  have a4 := flB_len f 8 [114, 115, 116]
  simp only [List.length_cons, List.length_nil] at a1 a2 a3 a4
  have b1 : (verB v).length ≤ 30 := by unfold verB; split <;> simp <;> omega
  have b2 : (furB f).length ≤ 30 := by unfold furB; split <;> simp <;> omega
  simp only [txB, flsB, endB, List.length_append, List.length_cons, List.length_nil]
  omega
/-- Text, in the document's words -/
theorem text_any (v t f s l : Int) (hv0 : 0 ≤ v) (hv1 : v ≤ 255) (ht0 : 0 ≤ t) (ht1 : t ≤ 255) (hf0 : 0 ≤ f) (hf1 : f ≤ 65535) (hs0 : 0 ≤ s) (hs1 : s ≤ 4294967295) (hl0 : 0 ≤ l) (hl1 : l ≤ 4294967295) (w : World) (hw : Words w) :
    Calls Tryz.prog 15 #[hdr v t f s l] w fun e w' => e = .returned (.string (str (txB v t f s l))) ∧ Below w.heap.size w w' := by
  have h := text_walk v t f s l hv0 hv1 ht0 ht1 (by rw [andNot15 f hf0 hf1]; omega) (by rw [andNot15 f hf0 hf1]; omega) hs0 hs1 hl0 hl1 w hw (by rw [text_eq v t f s l hf0 hf1]; have := txB_len v t f s l hv1 ht0 ht1 hf1 hs1 hl1; omega)
  rw [text_eq v t f s l hf0 hf1] at h
  exact h
end Go.Proofs.YtbbldkldgjmmgaaGreatDoor

/-
  A frame's text says which header it is of: words without blanks, one behind the other. Of whatever program.
-/
namespace Go.Proofs.YtbbldkldgjmmgaaGreatDoor.Wd
open Go.Lib

/-- words behind a blank each -/
def tl (ws : List (List UInt8)) : List UInt8 := ws.flatMap (fun w => 32 :: w)
def jn : List (List UInt8) → List UInt8
  | [] => []
  | x :: r => x ++ tl r
theorem head_split {x y a b : List UInt8} (hx : (32 : UInt8) ∉ x) (hy : (32 : UInt8) ∉ y) (ha : a = [] ∨ ∃ r, a = 32 :: r) (hb : b = [] ∨ ∃ r, b = 32 :: r) (h : x ++ a = y ++ b) : x = y ∧ a = b := by
  induction x generalizing y with
  | nil =>
    cases y with
    | nil => exact ⟨rfl, h⟩
    | cons c y =>
      rcases ha with rfl | ⟨r, rfl⟩
      · simp at h
      · simp only [List.nil_append, List.cons_append, List.cons.injEq] at h
        exact absurd h.1 (fun e => hy (by rw [e]; simp))
  | cons c x ih =>
    cases y with
    | nil =>
      rcases hb with rfl | ⟨r, rfl⟩
      · simp at h
      · simp only [List.nil_append, List.cons_append, List.cons.injEq] at h
        exact absurd h.1 (fun e => hx (by rw [e]; simp))
    | cons d y =>
      simp only [List.cons_append, List.cons.injEq] at h
      obtain ⟨e1, e2⟩ := ih (fun hm => hx (by simp [hm])) (y := y) (fun hm => hy (by simp [hm])) h.2
      exact ⟨by rw [h.1, e1], e2⟩
theorem tl_cases (r : List (List UInt8)) : tl r = [] ∨ ∃ q, tl r = 32 :: q := by
  cases r with
  | nil => exact .inl rfl
  | cons x r => exact .inr ⟨x ++ tl r, by simp [tl]⟩
theorem tl_inj : ∀ {a b : List (List UInt8)}, (∀ x ∈ a, (32 : UInt8) ∉ x) → (∀ x ∈ b, (32 : UInt8) ∉ x) → tl a = tl b → a = b
  | [], [], _, _, _ => rfl
  | [], _ :: _, _, _, h => by simp [tl] at h
  | _ :: _, [], _, _, h => by simp [tl] at h
  | x :: a, y :: b, ha, hb, h => by
    have h' : x ++ tl a = y ++ tl b := by simpa [tl] using h
    obtain ⟨e1, e2⟩ := head_split (ha x (by simp)) (hb y (by simp)) (tl_cases a) (tl_cases b) h'
    rw [e1, tl_inj (fun z hz => ha z (by simp [hz])) (fun z hz => hb z (by simp [hz])) e2]
theorem jn_inj {x y : List UInt8} {a b : List (List UInt8)} (ha : ∀ z ∈ x :: a, (32 : UInt8) ∉ z) (hb : ∀ z ∈ y :: b, (32 : UInt8) ∉ z) (h : jn (x :: a) = jn (y :: b)) : x = y ∧ a = b := by
  obtain ⟨e1, e2⟩ := head_split (ha x (by simp)) (hb y (by simp)) (tl_cases a) (tl_cases b) h
  exact ⟨e1, tl_inj (fun z hz => ha z (by simp [hz])) (fun z hz => hb z (by simp [hz])) e2⟩

/-- the numeral says the number -/
def val (ds : List UInt8) : Nat := ds.foldl (fun n d => n * 10 + (d.toNat - 48)) 0
theorem dd_val (n : Nat) : val (decDigits n) = n := by
  induction n using Nat.strongRecOn with
  | ind n ih =>
    by_cases h : n < 10
    · rw [decDigits, dif_pos h]
      simp [val, UInt8.toNat_ofNat']
      omega
    · rw [decDigits, dif_neg h]
      have := ih (n / 10) (by omega)
      unfold val at this ⊢
      rw [List.foldl_append, this]
      simp [UInt8.toNat_ofNat']
      omega
theorem dd_inj {a b : Nat} (h : decDigits a = decDigits b) : a = b := by rw [← dd_val a, ← dd_val b, h]
theorem dd_digit (n : Nat) : ∀ d ∈ decDigits n, 48 ≤ d.toNat ∧ d.toNat ≤ 57 := by
  induction n using Nat.strongRecOn with
  | ind n ih =>
    intro d hd
    by_cases h : n < 10
    · rw [decDigits, dif_pos h] at hd
      obtain rfl := List.mem_singleton.1 hd
      simp [UInt8.toNat_ofNat']
      omega
    · rw [decDigits, dif_neg h] at hd
      rcases List.mem_append.1 hd with hd | hd
      · exact ih (n / 10) (by omega) d hd
      · obtain rfl := List.mem_singleton.1 hd
        simp [UInt8.toNat_ofNat']
        omega
theorem dd_blank (n : Nat) : (32 : UInt8) ∉ decDigits n := fun h => by have := dd_digit n 32 h; simp at this
theorem dd_ne_nil (n : Nat) : decDigits n ≠ [] := by
  rw [decDigits]
  split <;> simp
/-- a word of letters is no numeral -/
theorem dd_word {n : Nat} {c : UInt8} {r : List UInt8} (hc : 57 < c.toNat) : decDigits n ≠ c :: r := fun h => by
  have := dd_digit n c (by rw [h]; simp)
  omega

/-! the words of a header -/
def wT : List (List UInt8) := [[100, 97, 116, 97], [119, 105, 110, 100, 111, 119], [112, 105, 110, 103], [97, 119, 97, 121]]
def ty (t : Nat) : List (List UInt8) := if t < 4 then [wT.getD t []] else [[116, 121, 112, 101], decDigits t]
def ver (v : Nat) : List (List UInt8) := if v = 0 then [] else [[118, 101, 114, 115, 105, 111, 110], decDigits v]
def fl (b : Bool) (w : List UInt8) : List (List UInt8) := if b then [w] else []
def fls (a b c d : Bool) : List (List UInt8) := fl a [115, 121, 110] ++ fl b [97, 99, 107] ++ fl c [102, 105, 110] ++ fl d [114, 115, 116]
def fur (h : Nat) : List (List UInt8) := if h = 0 then [] else [[102, 108, 97, 103, 115], decDigits h]
def fin (s l : Nat) : List (List UInt8) := [[115, 116, 114, 101, 97, 109], decDigits s, [108, 101, 110, 103, 116, 104], decDigits l]
theorem fls_mem {a b c d : Bool} {x : List UInt8} (h : x ∈ fls a b c d) : (x = [115, 121, 110] ∧ a = true) ∨ (x = [97, 99, 107] ∧ b = true) ∨ (x = [102, 105, 110] ∧ c = true) ∨ (x = [114, 115, 116] ∧ d = true) := by
  cases a <;> cases b <;> cases c <;> cases d <;> simp [fls, fl] at h <;> simp [h]
theorem fur_mem {h : Nat} {x : List UInt8} (hx : x ∈ fur h) : x = [102, 108, 97, 103, 115] ∨ x = decDigits h := by
  unfold fur at hx
  split at hx
  · cases hx
  · simpa using hx
theorem ver_mem {h : Nat} {x : List UInt8} (hx : x ∈ ver h) : x = [118, 101, 114, 115, 105, 111, 110] ∨ x = decDigits h := by
  unfold ver at hx
  split at hx
  · cases hx
  · simpa using hx
theorem flags_inj {a b c d a' b' c' d' : Bool} {h h' : Nat} (e : fls a b c d ++ fur h = fls a' b' c' d' ++ fur h') : (a = a' ∧ b = b' ∧ c = c' ∧ d = d') ∧ h = h' := by
  have nd : ∀ (n : Nat) (x : UInt8) (r : List UInt8), 57 < x.toNat → (x :: r) ≠ decDigits n := fun n x r hx e => dd_word hx e.symm
  have m1 : ∀ (x : List UInt8), x ∈ fls a b c d ++ fur h ↔ x ∈ fls a' b' c' d' ++ fur h' := fun x => by rw [e]
  have key : ∀ (a b c d : Bool) (h : Nat), (([115, 121, 110] : List UInt8) ∈ fls a b c d ++ fur h ↔ a = true) ∧ (([97, 99, 107] : List UInt8) ∈ fls a b c d ++ fur h ↔ b = true) ∧ (([102, 105, 110] : List UInt8) ∈ fls a b c d ++ fur h ↔ c = true) ∧ (([114, 115, 116] : List UInt8) ∈ fls a b c d ++ fur h ↔ d = true) := by
    intro a b c d h
    have n1 : ([115, 121, 110] : List UInt8) ∉ fur h := fun hm => by
      rcases fur_mem hm with e | e
      · simp at e
      · exact nd _ _ _ (by decide) e
    have n2 : ([97, 99, 107] : List UInt8) ∉ fur h := fun hm => by
      rcases fur_mem hm with e | e
      · simp at e
      · exact nd _ _ _ (by decide) e
    have n3 : ([102, 105, 110] : List UInt8) ∉ fur h := fun hm => by
      rcases fur_mem hm with e | e
      · simp at e
      · exact nd _ _ _ (by decide) e
    have n4 : ([114, 115, 116] : List UInt8) ∉ fur h := fun hm => by
      rcases fur_mem hm with e | e
      · simp at e
      · exact nd _ _ _ (by decide) e
    refine ⟨?_, ?_, ?_, ?_⟩ <;> simp only [List.mem_append, n1, n2, n3, n4, or_false] <;> cases a <;> cases b <;> cases c <;> cases d <;> simp [fls, fl]
  have k1 := key a b c d h
  have k2 := key a' b' c' d' h'
  have ha : a = a' := by rw [Bool.eq_iff_iff, ← k1.1, ← k2.1]; exact m1 _
  have hb : b = b' := by rw [Bool.eq_iff_iff, ← k1.2.1, ← k2.2.1]; exact m1 _
  have hc : c = c' := by rw [Bool.eq_iff_iff, ← k1.2.2.1, ← k2.2.2.1]; exact m1 _
  have hd : d = d' := by rw [Bool.eq_iff_iff, ← k1.2.2.2, ← k2.2.2.2]; exact m1 _
  subst ha hb hc hd
  refine ⟨⟨rfl, rfl, rfl, rfl⟩, ?_⟩
  have e2 : fur h = fur h' := List.append_cancel_left e
  unfold fur at e2
  split at e2 <;> split at e2
  · omega
  · cases e2
  · cases e2
  · simp only [List.cons.injEq, true_and, and_true] at e2
    exact dd_inj e2
theorem ver_inj {v v' : Nat} {r r' : List (List UInt8)} (hr : ([118, 101, 114, 115, 105, 111, 110] : List UInt8) ∉ r) (hr' : ([118, 101, 114, 115, 105, 111, 110] : List UInt8) ∉ r') (e : ver v ++ r = ver v' ++ r') : v = v' ∧ r = r' := by
  unfold ver at e
  split at e <;> split at e
  · exact ⟨by omega, e⟩
  · exact absurd (show _ ∈ r by rw [show r = _ from e]; simp) hr
  · exact absurd (show _ ∈ r' by rw [← show _ = r' from e]; simp) hr'
  · simp only [List.cons_append, List.nil_append, List.cons.injEq, true_and] at e
    exact ⟨dd_inj e.1, e.2⟩
theorem ty_inj {t t' : Nat} {r r' : List (List UInt8)} (e : ty t ++ r = ty t' ++ r') : t = t' ∧ r = r' := by
  have four : ∀ t : Nat, t < 4 → t = 0 ∨ t = 1 ∨ t = 2 ∨ t = 3 := by omega
  unfold ty at e
  split at e <;> split at e
  · rename_i h1 h2
    rcases four t h1 with rfl | rfl | rfl | rfl <;> rcases four t' h2 with rfl | rfl | rfl | rfl <;> simp [wT] at e <;> first | exact ⟨rfl, e⟩ | exact ⟨rfl, e.2⟩
  · rename_i h1 h2
    rcases four t h1 with rfl | rfl | rfl | rfl <;> simp [wT] at e
  · rename_i h1 h2
    rcases four t' h2 with rfl | rfl | rfl | rfl <;> simp [wT] at e
  · simp only [List.cons_append, List.nil_append, List.cons.injEq, true_and] at e
    exact ⟨dd_inj e.1, e.2⟩
def words (t v : Nat) (a b c d : Bool) (h s l : Nat) : List (List UInt8) := ty t ++ (ver v ++ ((fls a b c d ++ fur h) ++ fin s l))
theorem words_inj {t v h s l t' v' h' s' l' : Nat} {a b c d a' b' c' d' : Bool} (e : words t v a b c d h s l = words t' v' a' b' c' d' h' s' l') : t = t' ∧ v = v' ∧ (a = a' ∧ b = b' ∧ c = c' ∧ d = d') ∧ h = h' ∧ s = s' ∧ l = l' := by
  have nver : ∀ (a b c d : Bool) (h s l : Nat), ([118, 101, 114, 115, 105, 111, 110] : List UInt8) ∉ (fls a b c d ++ fur h) ++ fin s l := by
    intro a b c d h s l hm
    rcases List.mem_append.1 hm with hm | hm
    · rcases List.mem_append.1 hm with hm | hm
      · rcases fls_mem hm with ⟨e, _⟩ | ⟨e, _⟩ | ⟨e, _⟩ | ⟨e, _⟩ <;> simp at e
      · rcases fur_mem hm with e | e
        · simp at e
        · exact dd_word (by decide) e.symm
    · simp only [fin, List.mem_cons, List.not_mem_nil, or_false] at hm
      rcases hm with e | e | e | e
      · simp at e
      · exact dd_word (by decide) e.symm
      · simp at e
      · exact dd_word (by decide) e.symm
  obtain ⟨e1, e2⟩ := ty_inj e
  obtain ⟨e3, e4⟩ := ver_inj (nver _ _ _ _ _ _ _) (nver _ _ _ _ _ _ _) e2
  obtain ⟨e5, e6⟩ := List.append_inj' e4 rfl
  obtain ⟨e7, e8⟩ := flags_inj e5
  simp only [fin, List.cons.injEq, true_and, and_true] at e6
  exact ⟨e1, e3, e7, e8, dd_inj e6.1, dd_inj e6.2⟩
theorem words_blank (t v : Nat) (a b c d : Bool) (h s l : Nat) : ∀ x ∈ words t v a b c d h s l, (32 : UInt8) ∉ x := by
  intro x hx
  unfold words at hx
  rcases List.mem_append.1 hx with hx | hx
  · unfold ty at hx
    split at hx
    · rename_i h4
      have four : t = 0 ∨ t = 1 ∨ t = 2 ∨ t = 3 := by omega
      obtain rfl := List.mem_singleton.1 hx
      rcases four with rfl | rfl | rfl | rfl <;> decide
    · simp only [List.mem_cons, List.not_mem_nil, or_false] at hx
      rcases hx with rfl | rfl
      · decide
      · exact dd_blank _
  · rcases List.mem_append.1 hx with hx | hx
    · rcases ver_mem hx with rfl | rfl
      · decide
      · exact dd_blank _
    · rcases List.mem_append.1 hx with hx | hx
      · rcases List.mem_append.1 hx with hx | hx
        · rcases fls_mem hx with ⟨rfl, _⟩ | ⟨rfl, _⟩ | ⟨rfl, _⟩ | ⟨rfl, _⟩ <;> decide
        · rcases fur_mem hx with rfl | rfl
          · decide
          · exact dd_blank _
      · simp only [fin, List.mem_cons, List.not_mem_nil, or_false] at hx
        rcases hx with rfl | rfl | rfl | rfl
        · decide
        · exact dd_blank _
        · decide
        · exact dd_blank _
theorem words_cons (t v : Nat) (a b c d : Bool) (h s l : Nat) : ∃ x r, words t v a b c d h s l = x :: r := by
  unfold words ty
  split
  · exact ⟨_, _, rfl⟩
  · exact ⟨_, _, rfl⟩
theorem text_inj {t v h s l t' v' h' s' l' : Nat} {a b c d a' b' c' d' : Bool} (e : jn (words t v a b c d h s l) = jn (words t' v' a' b' c' d' h' s' l')) : t = t' ∧ v = v' ∧ (a = a' ∧ b = b' ∧ c = c' ∧ d = d') ∧ h = h' ∧ s = s' ∧ l = l' := by
  obtain ⟨x, r, e1⟩ := words_cons t v a b c d h s l
  obtain ⟨y, q, e2⟩ := words_cons t' v' a' b' c' d' h' s' l'
  have b1 := words_blank t v a b c d h s l
  have b2 := words_blank t' v' a' b' c' d' h' s' l'
  rw [e1] at b1
  rw [e2] at b2
  rw [e1, e2] at e
  obtain ⟨e3, e4⟩ := jn_inj b1 b2 e
  apply words_inj
  rw [e1, e2, e3, e4]
end Go.Proofs.YtbbldkldgjmmgaaGreatDoor.Wd

/-
  txB is injective.
-/
namespace Go.Proofs.YtbbldkldgjmmgaaGreatDoor
open Go.RowKit

def bitB (f b : Int) : Bool := bits .and .u16 f b != 0
theorem txB_words (v t f s l : Int) (hv : 0 ≤ v) (ht : 0 ≤ t) (hf : 0 ≤ f) : txB v t f s l = Wd.jn (Wd.words t.toNat v.toNat (bitB f 1) (bitB f 2) (bitB f 4) (bitB f 8) (f / 16 * 16).toNat s.toNat l.toNat) := by
  have e1 : ∀ r, kiB t ++ Wd.tl r = Wd.jn (Wd.ty t.toNat ++ r) := by
    intro r
    unfold kiB Wd.ty
    by_cases h : t < 4
    · rw [if_pos h, if_pos (by omega)]; rfl
    · rw [if_neg h, if_neg (by omega)]; simp [Wd.jn, Wd.tl]
  have e2 : verB v = Wd.tl (Wd.ver v.toNat) := by
    unfold verB Wd.ver
    by_cases h : v = 0
    · rw [if_pos h, if_pos (by omega)]; rfl
    · rw [if_neg h, if_neg (by omega)]; simp [Wd.tl]
  have e3 : ∀ (b : Int) (wd : List UInt8), flB f b wd = Wd.tl (Wd.fl (bitB f b) wd) := by
    intro b wd
    unfold flB Wd.fl bitB
    by_cases h : bits .and .u16 f b = 0
    · simp [h, Wd.tl]
    · simp [h, Wd.tl]
  have e4 : furB f = Wd.tl (Wd.fur (f / 16 * 16).toNat) := by
    unfold furB Wd.fur
    by_cases h : 15 < f
    · rw [if_pos h, if_neg (by omega)]; simp [Wd.tl]
    · rw [if_neg h, if_pos (by omega)]; rfl
  have e5 : endB s l = Wd.tl (Wd.fin s.toNat l.toNat) := by simp [endB, Wd.fin, Wd.tl]
  have ta : ∀ a b, Wd.tl (a ++ b) = Wd.tl a ++ Wd.tl b := by intro a b; simp [Wd.tl]
  unfold txB flsB Wd.words
  rw [← e1, ta, ta, ta, e2, e4, e5, e3, e3, e3, e3]
  unfold Wd.fls
  rw [ta, ta, ta]
  simp only [List.append_assoc]
theorem and_u16 (f b : Nat) (hf : f ≤ 65535) (hb : b ≤ 65535) : bits .and .u16 (f : Int) (b : Int) = ((f &&& b : Nat) : Int) := by
  rw [u16_and f b (by omega) (by omega) (by omega) (by omega), Int.toNat_natCast, Int.toNat_natCast]
theorem txB_inj {v t f s l v' t' f' s' l' : Int} (h : txB v t f s l = txB v' t' f' s' l') (hv : 0 ≤ v) (ht : 0 ≤ t) (hf : 0 ≤ f) (hf1 : f ≤ 65535) (hs : 0 ≤ s) (hl : 0 ≤ l) (hv' : 0 ≤ v') (ht' : 0 ≤ t') (hf' : 0 ≤ f') (hf1' : f' ≤ 65535) (hs' : 0 ≤ s') (hl' : 0 ≤ l') : v = v' ∧ t = t' ∧ f = f' ∧ s = s' ∧ l = l' := by
  rw [txB_words v t f s l hv ht hf, txB_words v' t' f' s' l' hv' ht' hf'] at h
  obtain ⟨e1, e2, ⟨b0, b1, b2, b3⟩, e3, e4, e5⟩ := Wd.text_inj h
  refine ⟨by omega, by omega, ?_, by omega, by omega⟩
  obtain ⟨m, rfl⟩ : ∃ m : Nat, f = m := ⟨f.toNat, by omega⟩
  obtain ⟨m', rfl⟩ : ∃ m : Nat, f' = m := ⟨f'.toNat, by omega⟩
  have low : m % 16 = m' % 16 := by
    have k : ∀ (n b : Nat), n ≤ 65535 → b ≤ 65535 → bitB (n : Int) (b : Int) = (n &&& b != 0) := by
      intro n b h1 h2
      unfold bitB
      rw [and_u16 n b h1 h2]
      have e : ((n &&& b : Nat) : Int) = 0 ↔ n &&& b = 0 := by omega
      rw [Bool.eq_iff_iff]
      simp only [bne_iff_ne, ne_eq, e]
    have c0 := k m 1 (by omega) (by decide)
    have c1 := k m 2 (by omega) (by decide)
    have c2 := k m 4 (by omega) (by decide)
    have c3 := k m 8 (by omega) (by decide)
    have d0 := k m' 1 (by omega) (by decide)
    have d1 := k m' 2 (by omega) (by decide)
    have d2 := k m' 4 (by omega) (by decide)
    have d3 := k m' 8 (by omega) (by decide)
    have g0 : (m &&& 1 != 0) = (m' &&& 1 != 0) := by rw [← c0, ← d0]; exact b0
    have g1 : (m &&& 2 != 0) = (m' &&& 2 != 0) := by rw [← c1, ← d1]; exact b1
    have g2 : (m &&& 4 != 0) = (m' &&& 4 != 0) := by rw [← c2, ← d2]; exact b2
    have g3 : (m &&& 8 != 0) = (m' &&& 8 != 0) := by rw [← c3, ← d3]; exact b3
    have red : ∀ n : Nat, (n &&& 1 = n % 16 &&& 1) ∧ (n &&& 2 = n % 16 &&& 2) ∧ (n &&& 4 = n % 16 &&& 4) ∧ (n &&& 8 = n % 16 &&& 8) := by
      intro n
      have e : n % 16 = n &&& 15 := by rw [show (15 : Nat) = 2 ^ 4 - 1 from rfl, Nat.and_two_pow_sub_one_eq_mod]
      rw [e]
      refine ⟨?_, ?_, ?_, ?_⟩ <;> rw [Nat.and_assoc] <;> rfl
    rw [(red m).1, (red m').1] at g0
    rw [(red m).2.1, (red m').2.1] at g1
    rw [(red m).2.2.1, (red m').2.2.1] at g2
    rw [(red m).2.2.2, (red m').2.2.2] at g3
    have hm : m % 16 < 16 := Nat.mod_lt _ (by decide)
    have hm' : m' % 16 < 16 := Nat.mod_lt _ (by decide)
    have fin16 : ∀ x y : Fin 16, (x.val &&& 1 != 0) = (y.val &&& 1 != 0) → (x.val &&& 2 != 0) = (y.val &&& 2 != 0) → (x.val &&& 4 != 0) = (y.val &&& 4 != 0) → (x.val &&& 8 != 0) = (y.val &&& 8 != 0) → x.val = y.val := by decide
    exact fin16 ⟨m % 16, hm⟩ ⟨m' % 16, hm'⟩ g0 g1 g2 g3
  omega
end Go.Proofs.YtbbldkldgjmmgaaGreatDoor

