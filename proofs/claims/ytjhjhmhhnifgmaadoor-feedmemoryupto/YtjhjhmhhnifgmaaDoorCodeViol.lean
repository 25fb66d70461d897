/-
  culvertlaw's 'Code' and 'Stream' at a violation.
-/
import Derived.Test.YtjhjhmhhnifgmaaDoorAsViol
import Derived.Test.YtjhjhmhhnifgmaaDoorBase
namespace Go.Proofs.YtjhjhmhhnifgmaaDoor
open Go.RowKit

/-- the value of a violation whose block is vb -/
abbrev vio (vb : Nat) : Value := .iface 53 (.pointer (some ⟨vb, 0, none⟩))

theorem is_viol {A : Nat → Addr} {w : World} (h : Sents 116 codeVars A w) (vb k m : Nat) (hk : k < 42) (hk27 : k ≠ 27) (hm : m < 42) (hw : w.cell? ⟨vb, 1, none⟩ = some (.iface 116 (.pointer (some (A k))))) :
    Calls Tryd.prog 24 #[vio vb, .iface 116 (.pointer (some (A m)))] w fun e w' => e = .returned (.bool (decide (m = 27) || decide (m = k))) ∧ w' = w := by
  have hc := h.cell 27 28 rfl
  obtain ⟨c27, t27, h27⟩ := h.row 27 (by rw [codeVars_length]; omega)
  obtain ⟨ck, tk, hk'⟩ := h.row k (by rw [codeVars_length]; omega)
  obtain ⟨cm, tm, hm'⟩ := h.row m (by rw [codeVars_length]; omega)
  by_cases e27 : m = 27
  · subst e27
    simpa using is_viol_protocol vb (A 27) w hc
  · by_cases ek : m = k
    · subst ek
      simpa [e27] using is_viol_why vb (A 27) (A m) w hc hw c27 ck t27 tk (h.ne m 27 (by rw [codeVars_length]; omega) (by rw [codeVars_length]; omega) e27) hk' h27
    · simpa [e27, ek] using is_viol_other vb (A 27) (A k) (A m) w hc hw c27 ck cm t27 tk tm (h.ne m 27 (by rw [codeVars_length]; omega) (by rw [codeVars_length]; omega) e27) (h.ne k m (by rw [codeVars_length]; omega) (by rw [codeVars_length]; omega) (Ne.symm ek)) hk' hm' h27

set_option maxHeartbeats 1000000 in
set_option maxRecDepth 100000 in
theorem code_viol {A : Nat → Addr} {w : World} (h : Sents 116 codeVars A w) (vb k : Nat) (hk : k < 42) (hk27 : k ≠ 27) (hw : w.cell? ⟨vb, 1, none⟩ = some (.iface 116 (.pointer (some (A k))))) :
    Calls Tryd.prog 15 #[vio vb] w fun e w' => e = .returned (.int .i64 (1000 + ((k : Int) + 1))) ∧ w' = w := by
  have hw := Aside.mk hw
  go_enter Tryd.func15, Tryd.ntmps15
  go_wp2
  go_loop [3, 4, 5, 6] (fun f y b n => ∃ m : Nat, m ≤ 42 ∧ n = .int .i64 ((m : Int) + 1) ∧ b = .bool (decide (27 < m)) ∧ ((m ≤ k ∧ f = .int .i64 0 ∧ y = .int .i64 0) ∨ (k < m ∧ f = .int .i64 1 ∧ y = .int .i64 ((k : Int) + 1)))) (fun _ _ _ n => 43 - (intOf n).toNat)
  case atStart => exact ⟨0, by omega, rfl, rfl, Or.inl ⟨by omega, rfl, rfl⟩⟩
  case round =>
    obtain ⟨m, hm, rfl, rfl, hor⟩ := hrel
    by_cases hlt : m < 42
    · have cS := Aside.mk (sentinel_at h m hlt)
      have cI0 := Aside.mk (is_viol h vb k m hk hk27 hlt hw.it)
      by_cases e27 : m = 27
      · subst e27
        have cI : Aside (Calls Tryd.prog 24 #[vio vb, .iface 116 (.pointer (some (A 27)))] w fun e w' => e = .returned (.bool true) ∧ w' = w) := ⟨by simpa using cI0.it⟩
        clear cI0
        rcases hor with ⟨hmk, rfl, rfl⟩ | ⟨hmk, rfl, rfl⟩
        · go_wp2_with (first | (go_at_call 25; refine cS.it.mono ?_; rintro e w' ⟨rfl, rfl⟩) | (go_at_call 24; refine cI.it.mono ?_; rintro e w' ⟨rfl, rfl⟩))
          go_round
          case rel => exact ⟨28, by omega, by go_num, rfl, Or.inl ⟨by omega, rfl, rfl⟩⟩
          case measure => simp [intOf]
        · go_wp2_with (first | (go_at_call 25; refine cS.it.mono ?_; rintro e w' ⟨rfl, rfl⟩) | (go_at_call 24; refine cI.it.mono ?_; rintro e w' ⟨rfl, rfl⟩))
          go_round
          case rel => exact ⟨28, by omega, by go_num, rfl, Or.inr ⟨by omega, rfl, rfl⟩⟩
          case measure => simp [intOf]
      · have hdec : decide (27 < m + 1) = decide (27 < m) := by
          by_cases q : 27 < m
          · rw [decide_eq_true q, decide_eq_true (by omega)]
          · rw [decide_eq_false q, decide_eq_false (by omega)]
        have hdec := Aside.mk hdec
        have hb28 : (((m : Int) + 1) == 28) = false := by rw [beq_eq_false_iff_ne]; omega
        by_cases ek : k = m
        · have cI : Aside (Calls Tryd.prog 24 #[vio vb, .iface 116 (.pointer (some (A m)))] w fun e w' => e = .returned (.bool true) ∧ w' = w) := ⟨by simpa [ek] using cI0.it⟩
          clear cI0
          have HK := Aside.mk ek
          clear ek
          rcases hor with ⟨hmk, rfl, rfl⟩ | ⟨hmk, _, _⟩
          · generalize hq : decide (27 < m) = q at *
            have hq := Aside.mk hq
            go_wp2_with (first | (go_at_call 25; refine cS.it.mono ?_; rintro e w' ⟨rfl, rfl⟩) | (go_at_call 24; refine cI.it.mono ?_; rintro e w' ⟨rfl, rfl⟩))
            go_round
            case rel => exact ⟨m + 1, by omega, by go_num, by rw [hdec.it], Or.inr ⟨by have := HK.it; omega, rfl, by rw [HK.it]⟩⟩
            case measure => simp [intOf]; omega
          · have := HK.it; omega
        · have cI : Aside (Calls Tryd.prog 24 #[vio vb, .iface 116 (.pointer (some (A m)))] w fun e w' => e = .returned (.bool false) ∧ w' = w) := ⟨by simpa [Ne.symm ek, e27] using cI0.it⟩
          clear cI0
          generalize hq : decide (27 < m) = q at *
          have hq := Aside.mk hq
          rcases hor with ⟨hmk, rfl, rfl⟩ | ⟨hmk, rfl, rfl⟩
          · go_wp2_with (first | (go_at_call 25; refine cS.it.mono ?_; rintro e w' ⟨rfl, rfl⟩) | (go_at_call 24; refine cI.it.mono ?_; rintro e w' ⟨rfl, rfl⟩))
            go_round
            case rel => exact ⟨m + 1, by omega, by go_num, by rw [hdec.it], Or.inl ⟨by omega, rfl, rfl⟩⟩
            case measure => simp [intOf]; omega
          · go_wp2_with (first | (go_at_call 25; refine cS.it.mono ?_; rintro e w' ⟨rfl, rfl⟩) | (go_at_call 24; refine cI.it.mono ?_; rintro e w' ⟨rfl, rfl⟩))
            go_round
            case rel => exact ⟨m + 1, by omega, by go_num, by rw [hdec.it], Or.inr ⟨by omega, rfl, rfl⟩⟩
            case measure => simp [intOf]; omega
    · rcases hor with ⟨hmk, _, _⟩ | ⟨hmk, rfl, rfl⟩
      · omega
      · have hd : decide (27 < m) = true := decide_eq_true (by omega)
        rw [hd]
        go_wp2
        go_ret
        exact ⟨by rw [show (1000 : Int) + ((k : Int) + 1) = (k : Int) + 1 + 1000 by omega]; go_num, rfl⟩

theorem stream_nil (w : World) : Calls Tryd.prog 14 #[.nilIface] w fun e w' => e = .returned (.tuple #[.int .u32 0, .bool false]) ∧ Below w.heap.size w w' := by
  go_enter Tryd.func14, Tryd.ntmps14
  go_wp2_with (go_at_call 23; refine (as_nil _ _).mono ?_; rintro e w' ⟨rfl, rfl⟩)
  go_ret2
  exact ⟨rfl, (Below.refl _ _).alloc (Nat.le_refl _) _⟩

theorem stream_viol (w : World) (vb : Nat) (s : Int) (hg : ErrTy w) (hc : w.cell? ⟨vb, 0, none⟩ = some (.int .u32 s)) :
    Calls Tryd.prog 14 #[vio vb] w fun e w' => e = .returned (.tuple #[.int .u32 s, .bool true]) ∧ Below w.heap.size w w' := by
  have hvb : vb < w.heap.size := World.block_lt_of_cell? w _ hc
  have B1 : Below w.heap.size w (w.alloc (.cells #[.pointer none] 53)) := (Below.refl _ _).alloc (Nat.le_refl _) _
  have hA := as_hit ⟨vb, 0, none⟩ ⟨w.heap.size, 0, none⟩ (.pointer none) (w.alloc (.cells #[.pointer none] 53)) (hg.later B1) (by simp) (by simp)
  generalize hW : (w.alloc (.cells #[.pointer none] 53)) = W at *
  have key : ∀ w', w' = ((((asW1 W ⟨w.heap.size, 0, none⟩).alloc (asBox W)).alloc (asBox W)).alloc (.cells #[.pointer (some ⟨vb, 0, none⟩)] 53)).setCell ⟨w.heap.size, 0, none⟩ (.pointer (some ⟨vb, 0, none⟩)) →
      w'.cell? ⟨w.heap.size, 0, none⟩ = some (.pointer (some ⟨vb, 0, none⟩)) ∧ Below w.heap.size w w' := by
    intro w' e
    subst e hW
    constructor
    · have : Cells (w.alloc (.cells #[.pointer none] 53)) w.heap.size 53 [.pointer none] := Cells.new _ _ _
      have := (((((Keeps.refl Nowhere _).alloc (.cells #[.pointer (some ⟨w.heap.size, 0, none⟩)] 66)).alloc (asBox (w.alloc (.cells #[.pointer none] 53)))).alloc (asBox (w.alloc (.cells #[.pointer none] 53)))).alloc (.cells #[.pointer (some ⟨vb, 0, none⟩)] 53)) |> this.later <| fun x => x
      exact (this.setCell 0 _).cell 0
    · exact ((((B1.alloc (by simp) _).alloc (by simp; omega) _).alloc (by simp; omega) _).alloc (by simp; omega) _).setCell (Nat.le_refl _) _
  go_enter Tryd.func14, Tryd.ntmps14
  go_wp2_with (go_at_call 23; refine hA.mono ?_; rintro e w2 ⟨rfl, e2⟩; obtain ⟨k1, k2⟩ := key w2 e2; have k2 := Aside.mk k2; have k3 : w2.cell? ⟨vb, 0, none⟩ = some (.int .u32 s) := (k2.it.cell (p := ⟨vb, 0, none⟩) hvb).trans hc; clear e2)
  go_ret2
  exact ⟨rfl, k2.it⟩
end Go.Proofs.YtjhjhmhhnifgmaaDoor
