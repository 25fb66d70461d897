/-
  strings.SplitSeq at a sep of one byte: what its walk hands over
-/
import Derived.Test.YtbbldkldgjmmgaaGreatDoorTTpR
import Derived.Test.YtbbldkldgjmmgaaGreatDoorRgS
import Derived.RangeFuncNested
import Derived.RangeFuncBound
import Derived.RangeFuncCalls
import Derived.RangeFuncLeaves
import Derived.Shelf.Abstract
import Derived.Shelf.RegionOpen
import Derived.WalkKit
import Derived.OwnWalkIn
import Derived.TacticsInMore
import Derived.LoopNIn
import Derived.LoopIn
namespace Go.Proofs.YtbbldkldgjmmgaaGreatDoor
open Go.RowKit Go.Shelf Go.Maps
attribute [-go_sem] run_index_string

theorem s_upto {T : List UInt8} {b : Nat} (h2 : b ≤ T.length) (W : World) : (Instr.slice 9 (.string (str T)) none (some (.int .i64 b)) none).run Tryz.prog W = .ok (.string (str (T.take b))) W := by
  have e : (str T).extract 0 b = str (T.take b) := by
    apply ByteArray.ext
    rw [ByteArray.data_extract]
    simp
  simp [Instr.slice, run_underlying Tryz.underlying9, Instr.sliceBounds, go_sem, h2, e]
/-- the walk's boxes: what is left of the text, the sep, how much of it is kept -/
structure SplW (W : World) (b : Nat) (s : List UInt8) (c : UInt8) : Prop where
  s : Cells W b 9 [.string (str s)]
  c : Cells W (b + 1) 9 [.string (str [c])]
  k : Cells W (b + 1 + 1) 3 [.int .i64 0]
abbrev itS (b : Nat) : Array Value := #[.pointer (some ⟨b + 1, 0, none⟩), .pointer (some ⟨b, 0, none⟩), .pointer (some ⟨b + 1 + 1, 0, none⟩)]
abbrev encT (x : List UInt8) : Array Value := #[.string (str x)]
theorem splitSeq_at (w : World) (s : List UInt8) (c : UInt8) : Calls Tryz.prog 43 #[.string (str s), .string (str [c]), .int .i64 0] w fun e w' => ∃ b, e = .returned (.func (.func 62) #[] (itS b)) ∧ Aside (w.heap.size ≤ b ∧ SplW w' b s c ∧ Keeps Nowhere w w') := by
  have C1 := Cells.new w 9 [.string (str s)]
  have C2 := Cells.new (w.alloc (.cells #[.string (str s)] 9)) 9 [.string (str [c])]
  have C3 := Cells.new ((w.alloc (.cells #[.string (str s)] 9)).alloc (.cells #[.string (str [c])] 9)) 3 [.int .i64 0]
  rw [World.size_alloc] at C2
  rw [World.size_alloc, World.size_alloc] at C3
  have H : Aside (w.heap.size ≤ w.heap.size ∧ SplW (((w.alloc (.cells #[.string (str s)] 9)).alloc (.cells #[.string (str [c])] 9)).alloc (.cells #[.int .i64 0] 3)) w.heap.size s c ∧ Keeps Nowhere w (((w.alloc (.cells #[.string (str s)] 9)).alloc (.cells #[.string (str [c])] 9)).alloc (.cells #[.int .i64 0] 3))) :=
    ⟨Nat.le_refl _, ⟨C1.later (S := Nowhere) (((Keeps.refl _ _).alloc _).alloc _) (fun x => x), C2.later (S := Nowhere) ((Keeps.refl _ _).alloc _) (fun x => x), C3⟩, (((Keeps.refl _ _).alloc _).alloc _).alloc _⟩
  clear C1 C2 C3
  go_enter Tryz.func43, Tryz.ntmps43
  go_wp2_with fail
  go_ret
  exact ⟨_, rfl, H⟩
theorem splitSeqP_at (w : World) (s : List UInt8) (c : UInt8) : Calls Tryz.prog 22 #[.string (str s), .string (str [c])] w fun e w' => ∃ b, e = .returned (.func (.func 62) #[] (itS b)) ∧ Aside (w.heap.size ≤ b ∧ SplW w' b s c ∧ Keeps Nowhere w w') := by
  have H := Aside.mk (splitSeq_at w s c)
  generalize str s = S at H ⊢
  generalize str [c] = C at H ⊢
  go_enter Tryz.func22, Tryz.ntmps22
  go_wp2_with (first | (go_at_call 43; refine H.it.mono ?_; rintro e w1 ⟨b, rfl, H1⟩) | fail)
  go_ret
  exact ⟨_, rfl, H1⟩
def lenAt (W : World) (b : Nat) : Nat := match W.cell? ⟨b, 0, none⟩ with
  | some (.string s) => s.size
  | _ => 0
theorem lenAt_s {W : World} {b : Nat} {s : List UInt8} (h : Cells W b 9 [.string (str s)]) : lenAt W b = s.length := by
  unfold lenAt
  rw [h.cell]
  show (match some (Value.string (str s)) with
    | some (.string s) => s.size
    | _ => 0) = _
  simp [str_size]
theorem block3 {W W' : World} {b : Nat} {s : List UInt8} {c : UInt8} (h : SplW W b s c) (hk : ∀ k, (k = b ∨ k = b + 1 ∨ k = b + 1 + 1) → W'.heap[k]? = W.heap[k]?) : SplW W' b s c := by
  obtain ⟨h1, h2, h3⟩ := h
  unfold Cells at h1 h2 h3
  exact ⟨by unfold Cells; rw [hk b (.inl rfl)]; exact h1, by unfold Cells; rw [hk (b + 1) (.inr (.inl rfl))]; exact h2, by unfold Cells; rw [hk (b + 1 + 1) (.inr (.inr rfl))]; exact h3⟩
set_option maxHeartbeats 2000000 in
theorem split_hands (n b : Nat) (s : List UInt8) (c : UInt8) (hs : s.length ≤ 140737488355328) : Hands2 Fence.wide n Tryz.prog 62 (itS b) encT (Tp.spU c s) (fun k => k = b ∨ k = b + 1 ∨ k = b + 1 + 1) b (fun W => SplW W b s c) := by
  intro l J Jx W hJ hY hW h0
  have HJ : Aside _ := ⟨hJ⟩
  have HY : Aside _ := ⟨hY⟩
  have HW : Aside _ := ⟨hW⟩
  have e1 : W.cell? ⟨b + 1, 0, none⟩ = some (.string (str [c])) := by rw [hW.c.cell]; rfl
  have hc1 : (str [c]).size = 1 := by rw [str_size]; rfl
  clear hY hJ hW
  refine callsIn_of_wp Tryz.func62 rfl trivial ?_ rfl
  simp only [Tryz.ntmps62, List.size_toArray, List.length_cons, List.length_nil, Nat.reduceAdd, Nat.reduceSub, Array.replicate_succ, Array.replicate_zero, List.push_toArray, List.append_toArray, List.nil_append, List.cons_append]
  gi_wp2
  clear e1
  gi_loopw [7] (fun _ wr => ∃ (pre : List (List UInt8)) (r : List UInt8), Aside (Tp.spU c s = pre ++ Tp.spU c r ∧ r.length ≤ s.length) ∧ J pre wr ∧ Aside (SplW wr b r c)) (fun _ wr => lenAt wr b)
  case atStart => exact ⟨[], s, ⟨rfl, Nat.le_refl _⟩, h0, HW⟩
  case round =>
    obtain ⟨pre, r, HL, hj, HS⟩ := hrel
    have c0 : wr.cell? ⟨b, 0, none⟩ = some (.string (str r)) := by rw [HS.it.s.cell]; rfl
    have c1 : wr.cell? ⟨b + 1, 0, none⟩ = some (.string (str [c])) := by rw [HS.it.c.cell]; rfl
    have c2 : wr.cell? ⟨b + 1 + 1, 0, none⟩ = some (.int .i64 0) := by rw [HS.it.k.cell]; rfl
    have IX := Aside.mk (Tryz.strings_Index_one (str r) c wr)
    rw [show (str r).data.toList = r from by simp] at IX
    have hrl : r.length ≤ 140737488355328 := Nat.le_trans HL.it.2 hs
    cases hi : decide (Lib.indexByte r c = -1)
    · have hi' : Lib.indexByte r c ≠ -1 := of_decide_eq_false hi
      have hg := Lib.indexByte_ge r c
      obtain ⟨i, hix⟩ : ∃ i : Nat, Lib.indexByte r c = i := ⟨(Lib.indexByte r c).toNat, by omega⟩
      obtain ⟨hil, hnc, hcut⟩ := Tp.idx_some hix
      have EL : Aside (Tp.spU c s = pre ++ r.take i :: Tp.spU c (r.drop (i + 1))) := ⟨by rw [HL.it.1, Tp.spU_idx hix]⟩
      rw [hix] at IX
      have ii : (i : Int) ≤ 140737488355327 := by omega
      have S1 : ∀ W, (Instr.slice 9 (.string (str r)) none (some (.int .i64 i)) none).run Tryz.prog W = .ok (.string (str (r.take i))) W := fun W => s_upto (by omega) W
      have S2 : ∀ W, (Instr.slice 9 (.string (str r)) (some (.int .i64 ((i : Int) + 1))) none none).run Tryz.prog W = .ok (.string (str (r.drop (i + 1)))) W := fun W => by
        have := s_from (T := r) (a := i + 1) (by omega) W
        rwa [show ((i + 1 : Nat) : Int) = (i : Int) + 1 by omega] at this
      obtain ⟨fn, tmps, assign, body, hy, hR2⟩ := HY.it pre (r.take i) wr hj (by rw [EL.it]; exact List.prefix_append _ _) (by rw [EL.it, List.getElem?_append_right (Nat.le_refl _), Nat.sub_self]; rfl)
      have HR := Aside.mk (show r.length ≤ s.length from HL.it.2)
      have HI : Aside (i < r.length) := ⟨hil⟩
      clear hi hi' hg hix hnc hcut hil hj
      obtain ⟨R, hR⟩ : ∃ R, str r = R := ⟨_, rfl⟩
      obtain ⟨Fg, hFg⟩ : ∃ Fg, str (r.take i) = Fg := ⟨_, rfl⟩
      obtain ⟨Rs, hRs⟩ : ∃ Rs, str (r.drop (i + 1)) = Rs := ⟨_, rfl⟩
      have HRS := Aside.mk hRs
      rw [show encT (r.take i) = #[.string Fg] from by rw [← hFg]] at hy
      rw [hR] at S1 S2 IX c0
      rw [hFg] at S1
      rw [hRs] at S2
      gi_wp2_with fail
      refine ⟨trivial, (fun e => by cases e), (callsIn_wide.2 IX.it).mono ?_⟩
      rintro e w' ⟨rfl, rfl⟩
      gi_wp2_with fail
      refine ⟨fun e => (by cases e), hR2.mono ?_⟩
      rintro e W3 ⟨kb, (⟨rfl, hJ3⟩ | ⟨rfl, hJx3⟩)⟩
      · have HS3 := Aside.mk (block3 HS.it kb)
        have d0 : W3.cell? ⟨b, 0, none⟩ = some (.string R) := by rw [HS3.it.s.cell, ← hR]; rfl
        have d1 : W3.cell? ⟨b + 1, 0, none⟩ = some (.string (str [c])) := by rw [HS3.it.c.cell]; rfl
        have d2 : W3.cell? ⟨b + 1 + 1, 0, none⟩ = some (.int .i64 0) := by rw [HS3.it.k.cell]; rfl
        have fz := HS3.it.s.frozen 0
        have HJ3 := Aside.mk hJ3
        have RL : Aside ((r.drop (i + 1)).length < r.length) := ⟨by rw [List.length_drop]; have := HI.it; omega⟩
        have LN : Aside (lenAt w' b = r.length) := ⟨lenAt_s HS.it.s⟩
        clear kb hJ3 c0 c1 c2 hR
        gi_wp2_with fail
        go_roundw
        case rel =>
          have K4 : Keeps (fun k => k = b) W3 (W3.setCell ⟨b, 0, none⟩ (.string Rs)) := (Keeps.refl _ _).setCell _ _ (fun _ => rfl)
          refine ⟨pre ++ [r.take i], r.drop (i + 1), ⟨by rw [EL.it, List.append_assoc]; rfl, by have := RL.it; have := HR.it; omega⟩, HJ.it _ _ _ HJ3.it K4, ⟨?_, HS3.it.c.later K4 (by omega), HS3.it.k.later K4 (by omega)⟩⟩
          rw [HRS.it]
          exact HS3.it.s.setCell 0 _
        case measure =>
          rw [LN.it]
          have C5 := HS3.it.s.setCell 0 (.string Rs)
          rw [← HRS.it] at C5 ⊢
          rw [lenAt_s (s := r.drop (i + 1)) C5]
          exact RL.it
      · gi_wp2_with fail
        refine bodyPost_ret (results_none rfl _ _ _) rfl ?_
        exact ⟨⟨_, rfl⟩, .inr ⟨pre ++ [r.take i], by rw [EL.it]; exact ⟨_, List.append_assoc _ _ _⟩, hJx3⟩⟩
    · have hi' : Lib.indexByte r c = -1 := of_decide_eq_true hi
      rw [hi'] at IX
      have EL : Aside (Tp.spU c s = pre ++ [r]) := ⟨by rw [HL.it.1, Tp.spU_none (Tp.idx_none hi')]⟩
      obtain ⟨fn, tmps, assign, body, hy, hR2⟩ := HY.it pre r wr hj (by rw [EL.it]; exact List.prefix_append _ _) (by rw [EL.it, List.getElem?_append_right (Nat.le_refl _), Nat.sub_self]; rfl)
      clear hi hi' hj
      gi_wp2_with fail
      refine ⟨trivial, (fun e => by cases e), (callsIn_wide.2 IX.it).mono ?_⟩
      rintro e w' ⟨rfl, rfl⟩
      gi_wp2_with fail
      refine ⟨fun e => (by cases e), hR2.mono ?_⟩
      rintro e W3 ⟨_, (⟨rfl, hJ3⟩ | ⟨rfl, hJx3⟩)⟩
      · gi_wp2_with fail
        go_end0
        exact ⟨⟨_, rfl⟩, .inl (by rw [EL.it]; exact hJ3)⟩
      · gi_wp2_with fail
        go_end0
        exact ⟨⟨_, rfl⟩, .inr ⟨pre ++ [r], by rw [EL.it]; exact List.prefix_refl _, hJx3⟩⟩
end Go.Proofs.YtbbldkldgjmmgaaGreatDoor
