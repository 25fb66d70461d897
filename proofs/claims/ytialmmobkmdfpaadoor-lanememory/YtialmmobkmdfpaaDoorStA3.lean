/-
  LaneAnswers
-/
import Derived.Test.YtialmmobkmdfpaaDoorStA2
namespace Go.Proofs.YtialmmobkmdfpaaDoor
open Go.RowKit

variable {A : Nat → Addr} {w w' w0 : World} {own own' : Nat → Nat} {L : List Tk}
/-- the lane or a nil one, and the document's list -/
def Lv (A : Nat → Addr) (w0 : World) (lv : Value) (nn : Bool) (L : List Tk) (m : Nat) (vm : Value) (own : Nat → Nat) (W : World) : Prop :=
  (nn = true ∧ lv = .pointer none ∧ L = [] ∧ Gl A w0 own W ∧ RdO9 own W vm L) ∨ (nn = false ∧ ∃ p, lv = ptr p ∧ Ln A w0 own W p L m ∧ RdO9 own W vm L)
variable {lv vm : Value} {nn : Bool} {m : Nat}
theorem Lv.sn {I : Nat → Prop} (h : Lv A w0 lv nn L m vm own w) (s : Sn I own w own' w') (h0 : ¬ I 0) (hi : ∀ k, In4 1 k → ¬ I k) (h9 : ¬ I 9) : Lv A w0 lv nn L m vm own' w' := by
  rcases h with ⟨a, b, c, d, e⟩ | ⟨a, p, b, c, d⟩
  · exact .inl ⟨a, b, c, d.sn s h0, e.sn s h9⟩
  · exact .inr ⟨a, p, b, c.sn s h0 hi, d.sn s h9⟩
theorem Lv.quiet (h : Lv A w0 lv nn L m vm own w) (k : Keeps Nowhere w w') : Lv A w0 lv nn L m vm own w' := h.sn (I := fun _ => False) (Sn.same k) (fun x => x) (fun _ _ x => x) (fun x => x)
theorem Lv.bel (h : Lv A w0 lv nn L m vm own w) : Below w0.heap.size w0 w := by
  rcases h with ⟨_, _, _, d, _⟩ | ⟨_, p, _, c, _⟩
  · exact d.g.bel
  · exact c.g.g.bel
theorem Lv.rd (h : Lv A w0 lv nn L m vm own w) : RdT w vm L := by
  rcases h with ⟨_, _, _, _, e⟩ | ⟨_, p, _, _, d⟩
  · exact e.1
  · exact d.1
theorem Lv.bound (h : Lv A w0 lv nn L m vm own w) : L.length ≤ m := by
  rcases h with ⟨_, _, rfl, _, e⟩ | ⟨_, p, _, c, d⟩
  · exact Nat.zero_le _
  · exact c.bound
theorem lv_step (h : Lv A w0 lv nn L m vm own w) (o : OpV11) (ho : o.t.Wide) (hm : m < 8796093022207) : Calls Tryd.prog 10 #[lv, vm, opv o] w fun e w' => ∃ vm' own' L', e = .returned (.tuple #[vm', .bool true]) ∧ Aside (Lv A w0 lv nn L' (m + 1) vm' own' w') := by
  rcases h with ⟨a, rfl, rfl, d, e⟩ | ⟨a, p, rfl, c, d⟩
  · refine (stepN d e o ho).mono ?_
    rintro e w' ⟨vm', own', rfl, r⟩
    exact ⟨vm', own', [], rfl, ⟨.inl ⟨a, rfl, rfl, r.it.1, r.it.2⟩⟩⟩
  · refine (stepP c d o ho hm).mono ?_
    rintro e w' ⟨vm', own', rfl, r⟩
    exact ⟨vm', own', _, rfl, ⟨.inr ⟨a, p, rfl, r.it.1, r.it.2⟩⟩⟩
theorem lv_len (h : Aside (Lv A w0 lv nn L m vm own w)) : Calls Tryd.prog 11 #[lv] w fun e w' => e = .returned (.int .i64 L.length) ∧ Aside (Lv A w0 lv nn L m vm own w') := by
  have h' := h.it
  rcases h' with ⟨a, rfl, rfl, d, e⟩ | ⟨a, p, rfl, c, d⟩
  · refine (llen_nil w).mono ?_
    rintro e w' ⟨rfl, k⟩
    exact ⟨rfl, ⟨h.it.quiet k⟩⟩
  · refine (lenX c).mono ?_
    rintro e w' ⟨rfl, k⟩
    exact ⟨rfl, ⟨h.it.quiet k.it⟩⟩
theorem lv_list (h : Aside (Lv A w0 lv nn L m vm own w)) (hm : m ≤ 8796093022208) : Calls Tryd.prog 13 #[lv] w fun e w' => ∃ v, e = .returned v ∧ Aside (RdT w' v L) ∧ Aside (Lv A w0 lv nn L m vm own w') := by
  have h' := h.it
  rcases h' with ⟨a, rfl, rfl, d, e⟩ | ⟨a, p, rfl, c, d⟩
  · refine (list_nil w).mono ?_
    rintro e w' ⟨v, rfl, o, k⟩
    exact ⟨v, rfl, ⟨owns_readsK o.it⟩, ⟨h.it.quiet k.it⟩⟩
  · refine (listX c hm).mono ?_
    rintro e w' ⟨v, rfl, o, k⟩
    exact ⟨v, rfl, ⟨owns_readsK o.it⟩, ⟨h.it.quiet k.it⟩⟩
theorem lv_same (h : Aside (Lv A w0 lv nn L m vm own w)) (v : Value) (hv : Aside (RdT w v L)) : Calls Tryd.prog 12 #[v, vm] w fun e w' => e = .returned (.bool true) ∧ Aside (Lv A w0 lv nn L m vm own w') := by
  refine (same_tk v vm L hv.it h.it.rd).mono ?_
  rintro e w' ⟨rfl, k⟩
  exact ⟨rfl, ⟨h.it.quiet k⟩⟩
theorem lv_count (h : Aside (Lv A w0 lv nn L m vm own w)) (hm : m ≤ 8796093022208) (kind : Int) : Calls Tryd.prog 14 #[lv, .int .i64 kind] w fun e w' => e = .returned (.int .i64 (cntK kind L)) ∧ Aside (Lv A w0 lv nn L m vm own w') := by
  have h' := h.it
  rcases h' with ⟨a, rfl, rfl, d, e⟩ | ⟨a, p, rfl, c, d⟩
  · refine (count_nil w kind).mono ?_
    rintro e w' ⟨rfl, k⟩
    exact ⟨rfl, ⟨h.it.quiet k.it⟩⟩
  · refine (countX c hm kind).mono ?_
    rintro e w' ⟨rfl, k⟩
    exact ⟨rfl, ⟨h.it.quiet k.it⟩⟩
theorem lv_ref (h : Aside (Lv A w0 lv nn L m vm own w)) (kind : Int) : Calls Tryd.prog 15 #[vm, .int .i64 kind] w fun e w' => e = .returned (.int .i64 (cntK kind L)) ∧ Aside (Lv A w0 lv nn L m vm own w') := by
  refine (countR vm L kind h.it.rd).mono ?_
  rintro e w' ⟨rfl, k⟩
  exact ⟨rfl, ⟨h.it.quiet k.it⟩⟩

set_option maxRecDepth 20000 in
set_option maxHeartbeats 8000000 in
theorem laneAnswers_walk {A : Nat → Addr} (nn : Bool) (v : Value) (zs : List OpV11) (w : World) (h : St11 A w) (hz : Ops11Arg w v zs) :
    Calls Tryd.prog 3 #[.bool nn, v] w fun e w' => e = .returned (.bool true) ∧ Below w.heap.size w w' := by
  obtain ⟨hz, hzb⟩ := hz
  obtain ⟨sa, cap, rfl, hlc, hcm, hat⟩ := hz
  have HAT := Aside.mk hat
  obtain ⟨M, hM⟩ : ∃ M, M = zs.length := ⟨_, rfl⟩
  rw [← hM] at hlc hzb ⊢
  have HM := Aside.mk hM
  have hMb : (M : Int) ≤ 5864062014634 := by omega
  have FX := Aside.mk (fixed_ok h)
  have G0 := Aside.mk (Gl.start h)
  clear h hM hcm hzb hat
  go_enter Tryd.func3, Tryd.ntmps3
  cases nn with
  | true =>
    go_upto_region 6 with (first
      | (go_at_call 8; refine FX.it.mono ?_; rintro e w1 ⟨rfl, k1⟩; have NW := Aside.mk (newX (G0.it.quiet k1.it)))
      | (go_at_call 9; refine NW.it.mono ?_; rintro e w2 ⟨p, own2, rfl, L2⟩)
      | fail)
    have X0 : Aside (Lv A w (.pointer none) true [] 0 (.slice none 0 0) own2 w2) := ⟨.inl ⟨rfl, rfl, rfl, L2.it.g, rdO9_nil _ _⟩⟩
    clear FX NW k1 G0 L2
    go_wp2_with fail
    go_loopw [6, 18] (fun mv iv wr => ∃ (k : Nat) (L : List Tk) (own : Nat → Nat) (qa : Option Addr) (qn qc : Nat), mv = .slice qa qn qc ∧ iv = .int .i64 k ∧ k ≤ M ∧ Aside (Lv A w (.pointer none) true L k (.slice qa qn qc) own wr)) (fun _ iv _ => M - (intOf iv).toNat)
    case atStart => exact ⟨0, [], own2, none, 0, 0, rfl, rfl, Nat.zero_le _, X0⟩
    case round =>
      clear X0
      obtain ⟨k, L, own, qa, qn, qc, rfl, rfl, hk, HX⟩ := hrel
      have hlb := HX.it.bound
      rcases Nat.eq_or_lt_of_le hk with rfl | hlt
      · go_wp2_with fail
        go_loopw [11] (fun kv wx => ∃ kd : Int, kv = .int .i64 kd ∧ -1 ≤ kd ∧ kd ≤ 9 ∧ Aside (Lv A w (.pointer none) true L k (.slice qa qn qc) own wx)) (fun kv _ => (9 - intOf kv).toNat)
        case atStart => exact ⟨-1, rfl, by omega, by omega, HX⟩
        case round =>
          clear HX
          obtain ⟨kd, rfl, h1, h2, HX⟩ := hrel
          rcases Int.lt_or_eq_of_le h2 with h3 | h3
          · go_wp2_with (first
              | (go_at_call 14; refine (lv_count HX (by omega) kd).mono ?_; rintro e w5 ⟨rfl, X5⟩)
              | (go_at_call 15; refine (lv_ref X5 kd).mono ?_; rintro e w6 ⟨rfl, X6⟩)
              | fail)
            all_goals (try (exfalso; omega))
            go_roundw
            case rel => exact ⟨kd + 1, by go_num, by omega, by omega, X6⟩
            case measure => (simp only [intOf]; omega)
          · subst h3
            go_wp2
            go_ret
            exact ⟨rfl, HX.it.bel⟩
      · obtain ⟨o, ho⟩ : ∃ o, zs[k]? = some o := ⟨_, List.getElem?_eq_getElem (by rw [← HM.it]; exact hlt)⟩
        obtain ⟨sb, so, cs, rfl, ⟨hcs, hwide⟩, _, hc⟩ := HAT.it k o ho
        subst hcs
        have hbel := HX.it.bel
        have ev0 : ∀ {q v}, w.cell? q = some v → wr.cell? q = some v := fun {q v} h => by rw [World.cell?_of_block (hbel.block _ (World.block_lt_of_cell? w _ h))]; exact h
        have r0 := hc 0 (by decide)
        have r1 := hc 1 (by decide)
        have r2 := hc 2 (by decide)
        have r3 := hc 3 (by decide)
        simp only [OpV11.cells, List.getElem?_cons_zero, List.getElem?_cons_succ, Nat.add_zero] at r0 r1 r2 r3
        replace r0 := ev0 r0
        replace r1 := ev0 r1
        replace r2 := ev0 r2
        replace r3 := ev0 r3
        have HW := Aside.mk hwide
        have i2 : (k : Int) < M := by omega
        have i3 : (0 : Int) ≤ k := by omega
        clear ho hc hwide ev0 hbel
        go_upto_region 10 with fail
        all_goals (try (exfalso; omega))
        obtain ⟨W1, hW1⟩ : ∃ W1, W1 = wr.alloc (.cells #[.int .i64 o.kind, .int .i64 o.t.k, .int .u32 o.t.s, .int .u32 o.t.v] 32) := ⟨_, rfl⟩
        rw [← hW1]
        have X1 : Aside (Lv A w (.pointer none) true L k (.slice qa qn qc) own W1) := ⟨HX.it.quiet (by rw [hW1]; exact (Keeps.refl _ _).alloc _)⟩
        have B1 : Cells W1 wr.heap.size 32 o.cells := by rw [hW1]; exact Cells.new _ _ _
        have d0 : W1.cell? ⟨wr.heap.size, 0, none⟩ = some (.int .i64 o.kind) := by rw [B1.cell]; rfl
        have d1 : W1.cell? ⟨wr.heap.size, 1, none⟩ = some (.int .i64 o.t.k) := by rw [B1.cell]; rfl
        have d2 : W1.cell? ⟨wr.heap.size, 2, none⟩ = some (.int .u32 o.t.s) := by rw [B1.cell]; rfl
        have d3 : W1.cell? ⟨wr.heap.size, 3, none⟩ = some (.int .u32 o.t.v) := by rw [B1.cell]; rfl
        have ST := Aside.mk (lv_step X1.it o HW.it (by omega))
        clear hW1 HX r0 r1 r2 r3 B1
        go_upto_region 12 with (first
          | (go_at_call 10; refine ST.it.mono ?_; rintro e w3 ⟨vm3, own3, L3, rfl, X3⟩; obtain ⟨a3, c3, e3, _, _, _⟩ := X3.it.rd.at; subst e3)
          | fail)
        clear ST X1 d0 d1 d2 d3
        go_wp2_with (first
          | (go_at_call 11; refine (lv_len X3).mono ?_; rintro e w4 ⟨rfl, X4⟩)
          | (go_at_call 13; refine (lv_list X4 (by omega)).mono ?_; rintro e w5 ⟨v5, rfl, R5, X5⟩)
          | (go_at_call 12; refine (lv_same X5 v5 R5).mono ?_; rintro e w6 ⟨rfl, X6⟩)
          | fail)
        go_roundw
        case rel => exact ⟨k + 1, L3, own3, a3, _, c3, rfl, by go_num, by omega, X6⟩
        case measure => (simp only [intOf]; omega)
  | false =>
    go_upto_region 6 with (first
      | (go_at_call 8; refine FX.it.mono ?_; rintro e w1 ⟨rfl, k1⟩; have NW := Aside.mk (newX (G0.it.quiet k1.it)))
      | (go_at_call 9; refine NW.it.mono ?_; rintro e w2 ⟨p, own2, rfl, L2⟩)
      | fail)
    have X0 : Aside (Lv A w (ptr p) false [] 0 (.slice none 0 0) own2 w2) := ⟨.inr ⟨rfl, p, rfl, L2.it, rdO9_nil _ _⟩⟩
    clear FX NW k1 G0 L2
    go_wp2_with fail
    go_loopw [6, 18] (fun mv iv wr => ∃ (k : Nat) (L : List Tk) (own : Nat → Nat) (qa : Option Addr) (qn qc : Nat), mv = .slice qa qn qc ∧ iv = .int .i64 k ∧ k ≤ M ∧ Aside (Lv A w (ptr p) false L k (.slice qa qn qc) own wr)) (fun _ iv _ => M - (intOf iv).toNat)
    case atStart => exact ⟨0, [], own2, none, 0, 0, rfl, rfl, Nat.zero_le _, X0⟩
    case round =>
      clear X0
      obtain ⟨k, L, own, qa, qn, qc, rfl, rfl, hk, HX⟩ := hrel
      have hlb := HX.it.bound
      rcases Nat.eq_or_lt_of_le hk with rfl | hlt
      · go_wp2_with fail
        go_loopw [11] (fun kv wx => ∃ kd : Int, kv = .int .i64 kd ∧ -1 ≤ kd ∧ kd ≤ 9 ∧ Aside (Lv A w (ptr p) false L k (.slice qa qn qc) own wx)) (fun kv _ => (9 - intOf kv).toNat)
        case atStart => exact ⟨-1, rfl, by omega, by omega, HX⟩
        case round =>
          clear HX
          obtain ⟨kd, rfl, h1, h2, HX⟩ := hrel
          rcases Int.lt_or_eq_of_le h2 with h3 | h3
          · go_wp2_with (first
              | (go_at_call 14; refine (lv_count HX (by omega) kd).mono ?_; rintro e w5 ⟨rfl, X5⟩)
              | (go_at_call 15; refine (lv_ref X5 kd).mono ?_; rintro e w6 ⟨rfl, X6⟩)
              | fail)
            all_goals (try (exfalso; omega))
            go_roundw
            case rel => exact ⟨kd + 1, by go_num, by omega, by omega, X6⟩
            case measure => (simp only [intOf]; omega)
          · subst h3
            go_wp2
            go_ret
            exact ⟨rfl, HX.it.bel⟩
      · obtain ⟨o, ho⟩ : ∃ o, zs[k]? = some o := ⟨_, List.getElem?_eq_getElem (by rw [← HM.it]; exact hlt)⟩
        obtain ⟨sb, so, cs, rfl, ⟨hcs, hwide⟩, _, hc⟩ := HAT.it k o ho
        subst hcs
        have hbel := HX.it.bel
        have ev0 : ∀ {q v}, w.cell? q = some v → wr.cell? q = some v := fun {q v} h => by rw [World.cell?_of_block (hbel.block _ (World.block_lt_of_cell? w _ h))]; exact h
        have r0 := hc 0 (by decide)
        have r1 := hc 1 (by decide)
        have r2 := hc 2 (by decide)
        have r3 := hc 3 (by decide)
        simp only [OpV11.cells, List.getElem?_cons_zero, List.getElem?_cons_succ, Nat.add_zero] at r0 r1 r2 r3
        replace r0 := ev0 r0
        replace r1 := ev0 r1
        replace r2 := ev0 r2
        replace r3 := ev0 r3
        have HW := Aside.mk hwide
        have i2 : (k : Int) < M := by omega
        have i3 : (0 : Int) ≤ k := by omega
        clear ho hc hwide ev0 hbel
        go_upto_region 10 with fail
        all_goals (try (exfalso; omega))
        obtain ⟨W1, hW1⟩ : ∃ W1, W1 = wr.alloc (.cells #[.int .i64 o.kind, .int .i64 o.t.k, .int .u32 o.t.s, .int .u32 o.t.v] 32) := ⟨_, rfl⟩
        rw [← hW1]
        have X1 : Aside (Lv A w (ptr p) false L k (.slice qa qn qc) own W1) := ⟨HX.it.quiet (by rw [hW1]; exact (Keeps.refl _ _).alloc _)⟩
        have B1 : Cells W1 wr.heap.size 32 o.cells := by rw [hW1]; exact Cells.new _ _ _
        have d0 : W1.cell? ⟨wr.heap.size, 0, none⟩ = some (.int .i64 o.kind) := by rw [B1.cell]; rfl
        have d1 : W1.cell? ⟨wr.heap.size, 1, none⟩ = some (.int .i64 o.t.k) := by rw [B1.cell]; rfl
        have d2 : W1.cell? ⟨wr.heap.size, 2, none⟩ = some (.int .u32 o.t.s) := by rw [B1.cell]; rfl
        have d3 : W1.cell? ⟨wr.heap.size, 3, none⟩ = some (.int .u32 o.t.v) := by rw [B1.cell]; rfl
        have ST := Aside.mk (lv_step X1.it o HW.it (by omega))
        clear hW1 HX r0 r1 r2 r3 B1
        go_upto_region 12 with (first
          | (go_at_call 10; refine ST.it.mono ?_; rintro e w3 ⟨vm3, own3, L3, rfl, X3⟩; obtain ⟨a3, c3, e3, _, _, _⟩ := X3.it.rd.at; subst e3)
          | fail)
        clear ST X1 d0 d1 d2 d3
        go_wp2_with (first
          | (go_at_call 11; refine (lv_len X3).mono ?_; rintro e w4 ⟨rfl, X4⟩)
          | (go_at_call 13; refine (lv_list X4 (by omega)).mono ?_; rintro e w5 ⟨v5, rfl, R5, X5⟩)
          | (go_at_call 12; refine (lv_same X5 v5 R5).mono ?_; rintro e w6 ⟨rfl, X6⟩)
          | fail)
        go_roundw
        case rel => exact ⟨k + 1, L3, own3, a3, _, c3, rfl, by go_num, by omega, X6⟩
        case measure => (simp only [intOf]; omega)
end Go.Proofs.YtialmmobkmdfpaaDoor
