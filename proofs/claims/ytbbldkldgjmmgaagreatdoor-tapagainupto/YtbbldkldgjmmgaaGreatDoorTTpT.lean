/-
  package script: Told
-/
import Derived.Test.YtbbldkldgjmmgaaGreatDoorTTpB
namespace Go.Proofs.YtbbldkldgjmmgaaGreatDoor
open Go.RowKit Go.Maps
attribute [-go_sem] run_index_string

def nat (ns : List Int) : List Nat := ns.map Int.toNat
def tb (ns : List Int) : List UInt8 := Tp.un (Tp.toldU (nat ns))
abbrev digB : ByteArray := ⟨#[48, 49, 50, 51, 52, 53, 54, 55, 56, 57, 97, 98, 99, 100, 101, 102]⟩
theorem dig_idx {k : Nat} (hk : k < 16) (W : World) : (Instr.index 9 (.string digB) (.int .u8 k)).run Tryz.prog W = .ok (.int .u8 (Tp.hexN k : Nat)) W := by
  have h : k = 0 ∨ k = 1 ∨ k = 2 ∨ k = 3 ∨ k = 4 ∨ k = 5 ∨ k = 6 ∨ k = 7 ∨ k = 8 ∨ k = 9 ∨ k = 10 ∨ k = 11 ∨ k = 12 ∨ k = 13 ∨ k = 14 ∨ k = 15 := by omega
  have hs : digB.size = 16 := by rfl
  rw [run_index_string W 9 digB .u8 k Tryz.underlying9, dif_pos (by omega)]
  rcases h with rfl | rfl | rfl | rfl | rfl | rfl | rfl | rfl | rfl | rfl | rfl | rfl | rfl | rfl | rfl | rfl <;> rfl
theorem isPlain_at (w : World) {c : Int} (h0 : 0 ≤ c) (h1 : c ≤ 255) : Calls Tryz.prog 41 #[.int .u8 c] w fun e w' => e = .returned (.bool (Tp.plainU c.toNat)) ∧ w' = w := by
  obtain ⟨P, hP⟩ : ∃ P, Tp.plainU c.toNat = P := ⟨_, rfl⟩
  rw [hP]
  go_enter Tryz.func41, Tryz.ntmps41
  go_wp2
  all_goals go_ret
  all_goals refine ⟨?_, rfl⟩
  all_goals rw [← hP]
  all_goals unfold Tp.plainU
  all_goals refine congrArg (fun b => Ending.returned (.bool b)) ?_
  all_goals rw [Bool.eq_iff_iff]
  all_goals simp
  all_goals omega
theorem Bld.step {b B B0 : Nat} {l : List UInt8} {v : Value} {w w' w0 : World} (h : Bld B w b v l) (hk : Keeps (fun k => k = b ∨ v.ownBlock = some k) w w') (h0 : Below B0 w0 w) (hb : B0 ≤ b) (hB : B0 ≤ B) (hs : B0 ≤ w.heap.size) : Below B0 w0 w' :=
  below_next h0 hk hs (fun k e _ => by
    rcases e with e | e
    · omega
    · have := owns_base h.r k e; omega)
theorem tb_snoc {ns : List Int} {j : Nat} {c : Int} (h : ns[j]? = some c) : Tp.un (Tp.flatU (nat (ns.take (j + 1)))) = Tp.un (Tp.flatU (nat (ns.take j))) ++ Tp.un (Tp.tellU c.toNat) := by
  have e : nat (ns.take (j + 1)) = nat (ns.take j) ++ [c.toNat] := by unfold nat; rw [List.take_add_one, h]; simp
  rw [e, Tp.flatU, List.flatMap_append, Tp.un_app, List.flatMap_cons, List.flatMap_nil, List.append_nil]
  rfl
def natOfU : Value → Nat | .int _ q => q.toNat | _ => 0
set_option maxRecDepth 20000 in
set_option maxHeartbeats 2000000 in
theorem told_at {x : Value} {ns : List Int} (w : World) (hr : Rd w x ns) (hb : AreBytes ns) (hl : ns.length ≤ 35184372088832) :
    Calls Tryz.prog 16 #[x] w fun e w' => e = .returned (.string (str (tb ns))) ∧ Aside (Below w.heap.size w w') := by
  by_cases h0 : ns = []
  · subst h0
    obtain ⟨q, c, rfl⟩ := hr.shape
    clear hr hb hl
    go_enter Tryz.func16, Tryz.ntmps16
    go_wp2_with fail
    go_ret
    exact ⟨rfl, ⟨Below.refl _ _⟩⟩
  obtain ⟨g, o, cp, rfl, hlc, hcell⟩ := hr.at h0
  obtain ⟨n, hn⟩ : ∃ n, ns.length = n := ⟨_, rfl⟩
  have HN := Aside.mk hn
  have HB := Aside.mk hb
  have hn1 : (n : Int) ≤ 35184372088832 := by omega
  have hn0 : 0 < n := by rw [← hn]; exact List.length_pos_iff.2 h0
  have hz : ((n : Int) == 0) = false := by rw [beq_eq_false_iff_ne]; omega
  obtain ⟨b, hbw⟩ : ∃ b, w.heap.size = b := ⟨_, rfl⟩
  have HW := Aside.mk hbw
  obtain ⟨w1, hw1⟩ : ∃ w1, w.alloc (.cells #[.pointer none, .slice none 0 0] 76) = w1 := ⟨_, rfl⟩
  have K1 : Aside (Below w.heap.size w w1) := ⟨by rw [← hw1]; exact alloc_below _ _⟩
  have C1 : Aside (Cells w1 b 76 [.pointer none, .slice none 0 0]) := ⟨by rw [← hw1, ← hbw]; exact Cells.new w _ _⟩
  have HS1 : Aside (w1.heap.size = b + 1) := ⟨by rw [← hw1, ← hbw]; simp⟩
  have CE : Aside (∀ k c, ns[k]? = some c → w.cell? ⟨g, o + k, none⟩ = some (.int .u8 c)) := ⟨fun k c h => hcell k _ (by unfold bv; rw [List.getElem?_map, h]; rfl)⟩
  have B1 : Aside (Bld (b + 1) w1 b (.slice none 0 0) (Tp.un (Tp.flatU (nat (ns.take 0))))) := ⟨⟨none, C1.it, .inl rfl⟩, World.ownsRow_nil _ _ _ _⟩
  rw [hn] at hlc hl ⊢
  have FIN : Aside (Tp.un (Tp.flatU (nat (ns.take n))) = tb ns) := ⟨by
    rw [← hn, List.take_of_length_le (Nat.le_refl _)]
    unfold tb Tp.toldU
    rw [if_neg (by unfold nat; simpa using h0)]⟩
  have HF : Aside (∀ j, (Tp.un (Tp.flatU (nat (ns.take j)))).length ≤ 3 * j) := ⟨fun j => by
    rw [Tp.un_len]
    have h1 := (Tp.flat_len (nat (ns.take j))).2
    have h2 : (nat (ns.take j)).length ≤ j := by unfold nat; simp; omega
    omega⟩
  clear hb hn h0 hcell hr
  go_enter Tryz.func16, Tryz.ntmps16
  go_upto_region 3 with fail
  go_upto_region 4 with fail
  clear hbw
  go_upto_region 5 with fail
  go_loopw [11] (fun iv wr => ∃ (j : Nat) (vv : Value), iv = .int .i64 j ∧ j ≤ n ∧ Aside (Bld (b + 1) wr b vv (Tp.un (Tp.flatU (nat (ns.take j)))) ∧ Below b w1 wr)) (fun iv _ => n - natOfU iv)
  case atStart => exact ⟨0, _, rfl, Nat.zero_le _, ⟨B1.it, Below.refl _ _⟩⟩
  case round =>
    obtain ⟨j, vv, rfl, hj, HX⟩ := hrel
    rcases Nat.eq_or_lt_of_le hj with rfl | hlt
    · have HBw : Aside (b + 1 ≤ wr.heap.size) := ⟨by have := HX.it.2.size; have := HS1.it; omega⟩
      have ST := Aside.mk (string_at (C := b) HX.it.1 (Nat.le_succ b) (Nat.le_refl b) HBw.it)
      rw [FIN.it] at ST
      go_wp2_with (first | (go_at_call 36; refine ST.it.mono ?_; rintro e w3 ⟨rfl, X3⟩) | fail)
      go_ret
      exact ⟨rfl, ⟨by rw [HW.it]; exact (K1.it.mono (by rw [HW.it]; exact Nat.le_refl _)).trans (HX.it.2.trans X3.it)⟩⟩
    · obtain ⟨c, hc⟩ : ∃ c, ns[j]? = some c := ⟨_, List.getElem?_eq_getElem (by rw [HN.it]; exact hlt)⟩
      have hcb := HB.it c (List.mem_of_getElem? hc)
      have c0 : wr.cell? ⟨g, o + j, none⟩ = some (.int .u8 c) := by
        have h1 := CE.it j c hc
        have hb2 := (K1.it.trans (HX.it.2.mono (by rw [HW.it]; exact Nat.le_refl _)))
        rw [hb2.cell (World.block_lt_of_cell? w _ h1)]
        exact h1
      have PL := Aside.mk (isPlain_at wr hcb.1 hcb.2)
      have SN := Aside.mk (tb_snoc hc)
      have LN := Aside.mk (HF.it j)
      clear hc
      have HBw : Aside (b + 1 ≤ wr.heap.size) := ⟨by have := HX.it.2.size; have := HS1.it; omega⟩
      cases hp : Tp.plainU c.toNat
      · rw [hp] at PL
        have TL : Aside (Tp.tellU c.toNat = [37, Tp.hexN (c.toNat / 16), Tp.hexN (c.toNat % 16)]) := ⟨by unfold Tp.tellU; rw [hp]; rfl⟩
        have W1 := Aside.mk (wb_at (c := 37) (by decide) (by decide) HX.it.1 HBw.it (by have := LN.it; omega))
        go_upto_region 9 with (first | (go_at_call 41; refine PL.it.mono ?_; rintro e w4 ⟨rfl, rfl⟩) | fail)
        go_upto_region 10 with (first | (go_at_call 34; refine W1.it.mono ?_; rintro e w5 ⟨v5, rfl, X5⟩) | fail)
        have G5 : Aside (Below b w1 w5) := ⟨HX.it.1.step X5.it.2 HX.it.2 (Nat.le_refl b) (Nat.le_succ b) (by have := HBw.it; omega)⟩
        have S5 : Aside (b + 1 ≤ w5.heap.size) := ⟨Nat.le_trans HBw.it X5.it.2.size⟩
        have D1 : ∀ W, (Instr.index 9 (.string digB) (.int .u8 (c / 16))).run Tryz.prog W = .ok (.int .u8 (Tp.hexN (c.toNat / 16) : Nat)) W := fun W => by
          have := dig_idx (k := c.toNat / 16) (by omega) W
          rwa [show ((c.toNat / 16 : Nat) : Int) = c / 16 by omega] at this
        have D2 : ∀ W, (Instr.index 9 (.string digB) (.int .u8 (c % 16))).run Tryz.prog W = .ok (.int .u8 (Tp.hexN (c.toNat % 16) : Nat)) W := fun W => by
          have := dig_idx (k := c.toNat % 16) (by omega) W
          rwa [show ((c.toNat % 16 : Nat) : Int) = c % 16 by omega] at this
        have b1 := Tp.hexN_lt (n := c.toNat / 16) (by omega)
        have b2 := Tp.hexN_lt (n := c.toNat % 16) (by omega)
        have HH := Aside.mk (And.intro b1 b2)
        obtain ⟨x1, hx1⟩ : ∃ x1, Tp.hexN (c.toNat / 16) = x1 := ⟨_, rfl⟩
        obtain ⟨x2, hx2⟩ : ∃ x2, Tp.hexN (c.toNat % 16) = x2 := ⟨_, rfl⟩
        rw [hx1] at D1 HH TL
        rw [hx2] at D2 HH TL
        clear b1 b2 hx1 hx2
        have W2 := Aside.mk (wb_at (c := (x1 : Nat)) (by omega) (by have := HH.it; omega) X5.it.1 S5.it (by have := LN.it; simp; omega))
        go_upto_region 11 with (first | (go_at_call 34; refine W2.it.mono ?_; rintro e w6 ⟨v6, rfl, X6⟩) | fail)
        have G6 : Aside (Below b w1 w6) := ⟨X5.it.1.step X6.it.2 G5.it (Nat.le_refl b) (Nat.le_succ b) (by have := S5.it; omega)⟩
        have S6 : Aside (b + 1 ≤ w6.heap.size) := ⟨Nat.le_trans S5.it X6.it.2.size⟩
        have W3 := Aside.mk (wb_at (c := (x2 : Nat)) (by omega) (by have := HH.it; omega) X6.it.1 S6.it (by have := LN.it; simp; omega))
        clear D1
        go_wp2_with (first | (go_at_call 34; refine W3.it.mono ?_; rintro e w7 ⟨v7, rfl, X7⟩) | fail)
        go_roundw
        case rel =>
          refine ⟨j + 1, v7, by go_num, by omega, ⟨?_, X6.it.1.step X7.it.2 G6.it (Nat.le_refl b) (Nat.le_succ b) (by have := S6.it; omega)⟩⟩
          rw [SN.it, TL.it]
          have := X7.it.1
          simp only [List.append_assoc] at this
          exact this
        case measure => simp [natOfU]; omega
      · rw [hp] at PL
        have TL : Aside (Tp.tellU c.toNat = [c.toNat]) := ⟨by unfold Tp.tellU; rw [hp]; rfl⟩
        have W1 := Aside.mk (wb_at (c := c) hcb.1 hcb.2 HX.it.1 HBw.it (by have := LN.it; omega))
        go_wp2_with (first
          | (go_at_call 41; refine PL.it.mono ?_; rintro e w4 ⟨rfl, rfl⟩)
          | (go_at_call 34; refine W1.it.mono ?_; rintro e w5 ⟨v5, rfl, X5⟩)
          | fail)
        go_roundw
        case rel =>
          refine ⟨j + 1, v5, by go_num, by omega, ⟨?_, ?_⟩⟩
          · rw [SN.it, TL.it]
            exact X5.it.1
          · exact HX.it.1.step X5.it.2 HX.it.2 (Nat.le_refl b) (Nat.le_succ b) (by have := HBw.it; omega)
        case measure => simp [natOfU]; omega
end Go.Proofs.YtbbldkldgjmmgaaGreatDoor
