/-
  culvertlaw02's Begin
-/
import Derived.Test.YtkmijhfimkcoiaaDoorRingPlay2
namespace Go.Proofs.YtkmijhfimkcoiaaDoor
open Go.RowKit Rint

theorem reads_nil2 (own : Nat → Nat) (j : Nat) (w : World) : ReadsO own j w (.slice none 0 0) (iv []) :=
  ⟨⟨none, 0, rfl, Nat.le_refl _, fun _ _ h => by simp [iv] at h⟩, fun _ _ e => by injection e with _ _ e; exact e.symm⟩
/-- the block of the three capacities -/
def CapsAt (bl : Nat) : Nat → TypeId → List Value → Prop := fun g e cs => g = bl ∧ e = 3 ∧ cs = [.int .i64 5, .int .i64 40, .int .i64 2147483647]
def NoneKept : Nat → TypeId → List Value → Prop := fun _ _ _ => False

theorem PlayAt.keepLess {B : Nat} {X Y : Nat → TypeId → List Value → Prop} {w0 w : World} {p : Nat} {R : Nat → Value} {C : Nat → Nat} {L : Nat → List Int} {V : Nat → Value} {own : Nat → Nat} (h : PlayAt B w0 X p R C L V own w) (hy : ∀ g e cs, Y g e cs → CellsO own 30 w g e cs) : PlayAt B w0 Y p R C L V own w :=
  ⟨h.ground, h.cells, h.ring, h.row, hy⟩

set_option maxHeartbeats 4000000 in
set_option maxRecDepth 100000 in
theorem begin_ok (B : Nat) (w0 w : World) (hb : Below B w0 w) (hB : B ≤ w.heap.size) :
    Calls Tryd.prog 5 #[] w fun e w' => ∃ p, e = .returned (.tuple #[.pointer (some ⟨p, 0, none⟩), .bool true]) ∧ ∃ R C L V own, PlayAt B w0 NoneKept p R C L V own w' := by
  have HB : Aside _ := ⟨hb⟩
  clear hb
  go_enter Tryd.func5, Tryd.ntmps5
  go_wp2
  obtain ⟨w2, hw2⟩ : ∃ w2, w2 = (w.alloc (.cells (wcells (fun _ => .pointer none) (fun _ => 0) (fun _ => .slice none 0 0)).toArray 39)).alloc (.cells [.int .i64 5, .int .i64 40, .int .i64 2147483647].toArray 3) := ⟨_, rfl⟩
  obtain ⟨p, hp⟩ : ∃ p, p = w.heap.size := ⟨_, rfl⟩
  have ew : (w.alloc (.cells #[.pointer none, .pointer none, .pointer none, .pointer none, .int .i64 0, .slice none 0 0, .int .i64 0, .slice none 0 0, .int .i64 0, .slice none 0 0, .int .i64 0, .slice none 0 0] 39)).alloc (.cells #[.int .i64 5, .int .i64 40, .int .i64 2147483647] 3) = w2 := hw2.symm
  rw [ew, ← hp]
  have kw : Keeps Nowhere w w2 := by rw [hw2]; exact ((Keeps.refl _ _).alloc _).alloc _
  have cw : Cells w2 p 39 (wcells (fun _ => .pointer none) (fun _ => 0) (fun _ => .slice none 0 0)) := by rw [hw2, hp]; exact (Cells.new w _ _).later (S := Nowhere) ((Keeps.refl _ _).alloc _) (fun x => x)
  have cl : Cells w2 (p + 1) 3 [.int .i64 5, .int .i64 40, .int .i64 2147483647] := by
    have h := Cells.new (w.alloc (.cells (wcells (fun _ => .pointer none) (fun _ => 0) (fun _ => .slice none 0 0)).toArray 39)) 3 [.int .i64 5, .int .i64 40, .int .i64 2147483647]
    rw [show (w.alloc (.cells (wcells (fun _ => .pointer none) (fun _ => 0) (fun _ => .slice none 0 0)).toArray 39)).heap.size = p + 1 by rw [hp]; simp] at h
    rw [hw2]; exact h
  have P2 : Aside (∃ R C L V own, PlayAt B w0 (CapsAt (p + 1)) p R C L V own w2) := by
    refine ⟨fun _ => .pointer none, fun _ => 0, fun _ => [], fun _ => .slice none 0 0, give (give (fun _ => 0) p 7) (p + 1) 30, ⟨⟨fun k hk => ?_, ?_, ?_⟩, ⟨cw, ?_⟩, fun i hi => .inl ⟨rfl, rfl, rfl⟩, fun i hi => reads_nil2 _ _ _, ?_⟩⟩
    · rw [give_old (by omega), give_old (by omega)]
    · exact below_next HB.it kw hB (fun _ x _ => x.elim)
    · exact Nat.le_trans hB kw.size
    · rw [give_old (by omega), give_new (Nat.le_refl _)]
    · rintro g e cs ⟨rfl, rfl, rfl⟩
      exact ⟨cl, give_new (Nat.le_refl _)⟩
  clear hw2 ew kw cw cl hp HB
  go_loopw [13] (fun x wr => ∃ i : Nat, i ≤ 3 ∧ x = .int .i64 i ∧ ∃ R C L V own, PlayAt B w0 (CapsAt (p + 1)) p R C L V own wr) (fun x _ => 3 - (intOf x).toNat)
  case atStart => exact ⟨0, Nat.zero_le _, rfl, P2.it⟩
  case round =>
    obtain ⟨i, hi3, rfl, R, C, L, V, o2, hpl⟩ := hrel
    have P2 : Aside _ := ⟨hpl.two⟩
    clear hpl
    by_cases hi : i < 3
    · have hi' : i < 4 := by omega
      have hii : (i : Int) < 3 := by omega
      have hi0 : (0 : Int) ≤ (i : Int) := by omega
      have hi4 : (i : Int) < 4 := by omega
      obtain ⟨nn, hn31, cl⟩ : ∃ nn : Nat, nn ≤ 2147483647 ∧ wr.cell? ⟨p + 1, i, none⟩ = some (.int .i64 nn) := by
        have := (P2.it.kept (p + 1) _ _ ⟨rfl, rfl, rfl⟩).1.cell i
        match i, hi with
        | 0, _ => exact ⟨5, by decide, this⟩
        | 1, _ => exact ⟨40, by decide, this⟩
        | 2, _ => exact ⟨2147483647, by decide, this⟩
      obtain ⟨va, vc, hve, _, _⟩ := (P2.it.row i hi').1
      obtain ⟨ml, hml⟩ : ∃ ml, ml = (iv (L i)).length := ⟨_, rfl⟩
      rw [← hml] at hve
      have VE : Aside _ := ⟨hve⟩
      clear hve hml
      go_wp2_with fail
      refine (new_good wr nn hn31).mono ?_
      rintro e w4 ⟨rfl, r4, k4⟩
      obtain ⟨pn, hpn⟩ : ∃ pn, pn = wr.heap.size := ⟨_, rfl⟩
      obtain ⟨o4, ho4⟩ : ∃ o4, o4 = give o2 wr.heap.size (10 + i) := ⟨_, rfl⟩
      have P4 : Aside (Play2 B w0 (CapsAt (p + 1)) p R C C L L V o4 w4) := ⟨by rw [ho4]; exact P2.it.fresh k4 (10 + i)⟩
      have RN4 : Aside (RingO o4 (10 + i) w4 (.pointer (some ⟨pn, 0, none⟩)) nn (iv [])) := ⟨by rw [hpn, ho4]; exact r4.mono (fun k hk _ => give_new (by omega))⟩
      rw [← hpn]
      clear r4 k4 hpn ho4 P2 cl
      go_wp2_with fail
      refine (refNew_good w4 nn hn31).mono ?_
      rintro e w5 ⟨rfl, k5⟩
      have K5 : Aside _ := ⟨k5⟩
      clear k5
      go_upto_region 7 with fail
      obtain ⟨w6, hw6⟩ : ∃ w6, w6 = w5.alloc (.cells [.int .i64 nn, .slice none 0 0].toArray 32) := ⟨_, rfl⟩
      have ew : w5.alloc (.cells #[.int .i64 nn, .slice none 0 0] 32) = w6 := hw6.symm
      rw [ew]
      obtain ⟨b6, hb6⟩ : ∃ b6, b6 = w5.heap.size := ⟨_, rfl⟩
      have k46 : Keeps Nowhere w4 w6 := by rw [hw6]; exact K5.it.alloc _
      have CB : Cells w6 b6 32 [.int .i64 nn, .slice none 0 0] := by rw [hw6, hb6]; exact Cells.new w5 _ _
      have P6 : Aside (Play2 B w0 (CapsAt (p + 1)) p R C C L L V o4 w6) := ⟨P4.it.quiet k46⟩
      have RN6 : Aside (RingO o4 (10 + i) w6 (.pointer (some ⟨pn, 0, none⟩)) nn (iv [])) := ⟨RN4.it.quiet k46⟩
      have hne : b6 ≠ p := by have := P4.it.cells.1.lt; have := K5.it.size; omega
      have KS1 : Aside ((w6.setCell ⟨p, i, none⟩ (.pointer (some ⟨pn, 0, none⟩))).drew.cell? ⟨b6, 0, none⟩ = some (.int .i64 nn) ∧ (w6.setCell ⟨p, i, none⟩ (.pointer (some ⟨pn, 0, none⟩))).drew.cell? ⟨b6, 1, none⟩ = some (.slice none 0 0)) := ⟨refCells (CB.setOther _ _ hne).drew⟩
      have KS3 : Aside ((((w6.setCell ⟨p, i, none⟩ (.pointer (some ⟨pn, 0, none⟩))).setCell ⟨p, 4 + i * 2, none⟩ (.int .i64 nn)).setCell ⟨p, 4 + i * 2 + 1, none⟩ (.slice none 0 0)).drew.cell? ⟨b6, 0, none⟩ = some (.int .i64 nn) ∧ (((w6.setCell ⟨p, i, none⟩ (.pointer (some ⟨pn, 0, none⟩))).setCell ⟨p, 4 + i * 2, none⟩ (.int .i64 nn)).setCell ⟨p, 4 + i * 2 + 1, none⟩ (.slice none 0 0)).drew.cell? ⟨b6, 1, none⟩ = some (.slice none 0 0)) := ⟨refCells (((CB.setOther _ _ hne).setOther _ _ hne).setOther _ _ hne).drew⟩
      obtain ⟨z0, z1⟩ := refCells CB
      rw [← hb6]
      clear hw6 ew hb6 k46 CB P4 RN4 K5
      obtain ⟨c1, c2, c3⟩ := P6.it.one.at3 i hi'
      rw [VE.it] at c3
      have f1 := P6.it.cells.1.frozen i
      have f2 := P6.it.cells.1.frozen (4 + i * 2)
      have f3 := P6.it.cells.1.frozen (4 + i * 2 + 1)
      have n1 : ¬ i = 4 + i * 2 := by omega
      have n2 : ¬ i = 4 + i * 2 + 1 := by omega
      have n3 : ¬ 4 + i * 2 = i := by omega
      have n4 : ¬ 4 + i * 2 + 1 = i := by omega
      go_upto_region 9 with fail
      go_region_held_law (fun w' => w'.cell? ⟨b6, 0, none⟩ = some (.int .i64 nn) ∧ w'.cell? ⟨b6, 1, none⟩ = some (.slice none 0 0)) (with_reducible first | exact ⟨drew_cell z0, drew_cell z1⟩ | exact KS1.it | exact KS3.it) (fail)
      obtain ⟨w8, hw8⟩ : ∃ w8, w8 = (((w6.setCell ⟨p, i, none⟩ (.pointer (some ⟨pn, 0, none⟩))).setCell ⟨p, 4 + i * 2, none⟩ (.int .i64 nn)).setCell ⟨p, 4 + i * 2 + 1, none⟩ (.slice none 0 0)).drew := ⟨_, rfl⟩
      have P8 : Aside (Play2 B w0 (CapsAt (p + 1)) p (upd R i (.pointer (some ⟨pn, 0, none⟩))) (upd C i nn) (upd C i nn) (upd L i []) (upd L i []) (upd V i (.slice none 0 0)) o4 w8) := ⟨by
        rw [hw8]
        exact ((P6.it.setRing i hi' _ nn [] RN6.it).setModel i hi' nn _ [] (reads_nil2 _ _ _)).quiet (Keeps.refl Nowhere _).drew⟩
      try rw [← hw8]
      clear hw8 c1 c2 c3 f1 f2 f3 z0 z1 KS1 KS3 P6 RN6
      go_wp2
      go_roundw
      case rel => exact ⟨i + 1, by omega, by go_num, _, _, _, _, _, P8.it.one⟩
      case measure => simp [intOf]; omega
    · obtain rfl : i = 3 := by omega
      go_wp2
      go_ret2
      exact ⟨p, rfl, _, _, _, _, _, P2.it.one.keepLess (fun _ _ _ h => h.elim)⟩
end Go.Proofs.YtkmijhfimkcoiaaDoor
