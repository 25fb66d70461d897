/-
  culvertlaw15.TablePlays
-/
import Derived.Test.YtbdnggkfpkfcoaaDoorLwV
import Derived.Test.YtbdnggkfpkfcoaaDoorLwS
namespace Go.Proofs.YtbdnggkfpkfcoaaDoor
open Go.RowKit Tbint

variable {A : Nat → Addr} {w w' W : World} {own own' : Nat → Nat} {p wb nb : Nat} {room : Int} {L : Tl Int} {v : Value} {I : Nat → Prop}

/-- a table, the document's, and its box -/
structure Pw (A : Nat → Addr) (w : World) (own : Nat → Nat) (W : World) (p : Nat) (room : Int) (L : Tl Int) (v : Value) (wb : Nat) : Prop where
  g : OnG A w own W
  t : Tp own 1 W p room L v
  c : CellsO own 8 W wb 31 [.int .i64 room, v]
theorem Pw.quiet (h : Pw A w own W p room L v wb) (hk : Keeps Nowhere W w') : Pw A w own w' p room L v wb := ⟨h.g.quiet hk, h.t.quiet hk, h.c.sn (I := fun _ => False) (Sn.same hk) (fun x => x)⟩
theorem Pw.step (h : Pw A w own W p room L v wb) (hk : Keeps Nowhere W w') (r : Nat) : Pw A w (give own W.heap.size r) w' p room L v wb := ⟨h.g.sn (I := fun _ => False) (Sn.quiet hk r) (fun x => x), h.t.sn (I := fun _ => False) (Sn.quiet hk r) (fun x => x) (fun x => x), h.c.sn (I := fun _ => False) (Sn.quiet hk r) (fun x => x)⟩
theorem Pw.bel (h : Pw A w own W p room L v wb) : Keeps Nowhere w W := Keeps.ofBelow h.g.g.bel
theorem Pw.cells (h : Pw A w own W p room L v wb) : W.cell? ⟨wb, 0, none⟩ = some (.int .i64 room) ∧ W.cell? ⟨wb, 1, none⟩ = some v ∧ W.frozen? ⟨wb, 0, none⟩ = false ∧ W.frozen? ⟨wb, 1, none⟩ = false := ⟨by rw [h.c.1.cell]; rfl, by rw [h.c.1.cell]; rfl, h.c.1.frozen 0, h.c.1.frozen 1⟩
theorem Pw.h2 (h : Aside (Pw A w own W p room L v wb)) : W.cell? ⟨wb, 0, none⟩ = some (.int .i64 room) ∧ W.cell? ⟨wb, 1, none⟩ = some v := ⟨h.it.cells.1, h.it.cells.2.1⟩
/-- the box takes the next table -/
theorem Pw.write (h : Pw A w own W p room L v wb) {v2 : Value} {L2 : Tl Int} {p2 : Tp own 1 W p room L2 v2} : Pw A w own ((W.setCell ⟨wb, 0, none⟩ (.int .i64 room)).setCell ⟨wb, 1, none⟩ v2) p room L2 v2 wb := by
  have s8 : Sn (fun k => k = 8) own W own ((W.setCell ⟨wb, 0, none⟩ (.int .i64 room)).setCell ⟨wb, 1, none⟩ v2) := ⟨fun _ _ => rfl, ((Keeps.refl _ _).setCell _ _ (fun _ => h.c.2)).setCell _ _ (fun _ => h.c.2)⟩
  exact ⟨h.g.sn s8 (by decide), p2.sn s8 (by decide) (by decide), ⟨(h.c.1.setCell 0 (.int .i64 room)).setCell 1 v2, h.c.2⟩⟩
theorem pw_walked (h : Aside (Pw A w own W p room L v wb)) (a1 : Int) : Calls Tryd.prog 14 #[ptr p, .agg #[.int .i64 a1, v]] W fun e w' => e = .returned (.bool true) ∧ Aside (Pw A w own w' p room L v wb) := by
  refine (walked_ok W a1 h.it.t.t h.it.t.d).mono ?_
  rintro e w' ⟨rfl, K⟩
  exact ⟨rfl, ⟨h.it.quiet K.it⟩⟩
theorem pw_len (h : Aside (Pw A w own W p room L v wb)) : Calls Tryd.prog 15 #[ptr p] W fun e w' => e = .returned (.int .i64 L.length) ∧ Aside (Pw A w own w' p room L v wb) := by
  refine (len_at h.it.t.t).mono ?_
  rintro e w' ⟨rfl, rfl⟩
  exact ⟨rfl, h⟩

/-- within a round: the table and the document's next, the box with the old one, the op of the script -/
structure Pz (A : Nat → Addr) (w : World) (own : Nat → Nat) (W : World) (p : Nat) (room : Int) (L : Tl Int) (vt : Value) (wb : Nat) (v : Value) (b q : Nat) (kd : Int) (id : Nat) (x : Int) : Prop where
  g : OnG A w own W
  t : Tp own 1 W p room L vt
  c : CellsO own 8 W wb 31 [.int .i64 room, v]
  o : b < w.heap.size ∧ w.cell? ⟨b, q, none⟩ = some (.int .i64 kd) ∧ w.cell? ⟨b, q + 1, none⟩ = some (.int .u32 (id : Nat)) ∧ w.cell? ⟨b, q + 2, none⟩ = some (.int .i64 x)
variable {vt v6 : Value} {b q id : Nat} {kd x : Int} {L6 : Tl Int}
theorem Pz.sn (h : Pz A w own W p room L vt wb v b q kd id x) (s : Sn I own W own' w') (h0 : ¬ I 0) (h1 : ¬ I 1) (h8 : ¬ I 8) (h9 : ¬ I 9) : Pz A w own' w' p room L vt wb v b q kd id x := ⟨h.g.sn s h0, h.t.sn s h1 h9, h.c.sn s h8, h.o⟩
theorem Pz.quiet (h : Pz A w own W p room L vt wb v b q kd id x) (hk : Keeps Nowhere W w') : Pz A w own w' p room L vt wb v b q kd id x := h.sn (I := fun _ => False) (Sn.same hk) (fun x => x) (fun x => x) (fun x => x) (fun x => x)
theorem Pz.h0 (h : Pz A w own W p room L vt wb v b q kd id x) : W.cell? ⟨wb, 0, none⟩ = some (.int .i64 room) ∧ W.cell? ⟨wb, 1, none⟩ = some v ∧ W.cell? ⟨b, q, none⟩ = some (.int .i64 kd) ∧ W.cell? ⟨b, q + 1, none⟩ = some (.int .u32 (id : Nat)) ∧ W.cell? ⟨b, q + 2, none⟩ = some (.int .i64 x) := by
  have hb := h.g.g.bel.block b h.o.1
  exact ⟨by rw [h.c.1.cell]; rfl, by rw [h.c.1.cell]; rfl, by rw [World.cell?_of_block (w := w) hb]; exact h.o.2.1, by rw [World.cell?_of_block (w := w) hb]; exact h.o.2.2.1, by rw [World.cell?_of_block (w := w) hb]; exact h.o.2.2.2⟩
theorem Pz.h (h : Aside (Pz A w own W p room L vt wb v b q kd id x)) : W.cell? ⟨wb, 0, none⟩ = some (.int .i64 room) ∧ W.cell? ⟨wb, 1, none⟩ = some v ∧ W.cell? ⟨b, q, none⟩ = some (.int .i64 kd) ∧ W.cell? ⟨b, q + 1, none⟩ = some (.int .u32 (id : Nat)) ∧ W.cell? ⟨b, q + 2, none⟩ = some (.int .i64 x) := h.it.h0
theorem Pz.hA (h : Aside (Pz A w own W p room L vt wb v b q kd id x)) {ob : Obj} : (W.alloc ob).cell? ⟨wb, 0, none⟩ = some (.int .i64 room) ∧ (W.alloc ob).cell? ⟨wb, 1, none⟩ = some v ∧ (W.alloc ob).cell? ⟨b, q, none⟩ = some (.int .i64 kd) ∧ (W.alloc ob).cell? ⟨b, q + 1, none⟩ = some (.int .u32 (id : Nat)) ∧ (W.alloc ob).cell? ⟨b, q + 2, none⟩ = some (.int .i64 x) := (h.it.quiet ((Keeps.refl _ _).alloc ob)).h0
/-- and a box laid ahead of the call -/
structure Pn (A : Nat → Addr) (w : World) (own : Nat → Nat) (W : World) (p : Nat) (room : Int) (L : Tl Int) (vt : Value) (wb : Nat) (v : Value) (b q : Nat) (kd : Int) (id : Nat) (x : Int) (nb : Nat) : Prop where
  z : Pz A w own W p room L vt wb v b q kd id x
  n : ∃ r0 r1, CellsO own 7 W nb 31 [r0, r1]
theorem Pn.h (h : Aside (Pn A w own W p room L vt wb v b q kd id x nb)) : W.cell? ⟨wb, 0, none⟩ = some (.int .i64 room) ∧ W.cell? ⟨wb, 1, none⟩ = some v ∧ W.cell? ⟨b, q, none⟩ = some (.int .i64 kd) ∧ W.cell? ⟨b, q + 1, none⟩ = some (.int .u32 (id : Nat)) ∧ W.cell? ⟨b, q + 2, none⟩ = some (.int .i64 x) := h.it.z.h0
theorem Pn.write (h : Pn A w own W p room L vt wb v b q kd id x nb) (y : Value) : Pz A w own ((W.setCell ⟨nb, 0, none⟩ (.int .i64 room)).setCell ⟨nb, 1, none⟩ y) p room L vt wb v b q kd id x := by
  obtain ⟨r0, r1, hn⟩ := h.n
  have s7 : Sn (fun k => k = 7) own W own ((W.setCell ⟨nb, 0, none⟩ (.int .i64 room)).setCell ⟨nb, 1, none⟩ y) := ⟨fun _ _ => rfl, ((Keeps.refl _ _).setCell _ _ (fun _ => hn.2)).setCell _ _ (fun _ => hn.2)⟩
  exact h.z.sn s7 (by decide) (by decide) (by decide) (by decide)
theorem Pn.hS (h : Aside (Pn A w own W p room L vt wb v b q kd id x nb)) {y : Value} : ((W.setCell ⟨nb, 0, none⟩ (.int .i64 room)).setCell ⟨nb, 1, none⟩ y).cell? ⟨wb, 0, none⟩ = some (.int .i64 room) ∧ ((W.setCell ⟨nb, 0, none⟩ (.int .i64 room)).setCell ⟨nb, 1, none⟩ y).cell? ⟨wb, 1, none⟩ = some v ∧ ((W.setCell ⟨nb, 0, none⟩ (.int .i64 room)).setCell ⟨nb, 1, none⟩ y).cell? ⟨b, q, none⟩ = some (.int .i64 kd) ∧ ((W.setCell ⟨nb, 0, none⟩ (.int .i64 room)).setCell ⟨nb, 1, none⟩ y).cell? ⟨b, q + 1, none⟩ = some (.int .u32 (id : Nat)) ∧ ((W.setCell ⟨nb, 0, none⟩ (.int .i64 room)).setCell ⟨nb, 1, none⟩ y).cell? ⟨b, q + 2, none⟩ = some (.int .i64 x) := (h.it.write y).h0
theorem Pn.res (h : Aside (Pn A w own W p room L vt wb v b q kd id x nb)) : ∃ r0 r1, W.cell? ⟨nb, 0, none⟩ = some r0 ∧ W.cell? ⟨nb, 1, none⟩ = some r1 ∧ W.frozen? ⟨nb, 0, none⟩ = false ∧ W.frozen? ⟨nb, 1, none⟩ = false := by
  obtain ⟨r0, r1, h2⟩ := h.it.n
  exact ⟨r0, r1, by rw [h2.1.cell]; rfl, by rw [h2.1.cell]; rfl, h2.1.frozen 0, h2.1.frozen 1⟩
theorem pz_step (h : Aside (Pz A w own W p room L v wb v b q kd id x)) (hid : id ≤ 4294967295) : Calls Tryd.prog 13 #[ptr p, .agg #[.int .i64 room, v], .agg #[.int .i64 kd, .int .u32 (id : Nat), .int .i64 x]] W fun e w' => ∃ qa ql qc L6 own6, e = .returned (.tuple #[.agg #[.int .i64 room, .slice qa ql qc], .bool true]) ∧ Aside (Pz A w own6 w' p room L6 (.slice qa ql qc) wb v b q kd id x) := by
  refine (step15 own W h.it.g h.it.t kd id x hid (by decide)).mono ?_
  rintro e w' ⟨v6, L6, own6, rfl, X6⟩
  obtain ⟨qa, qc, hq, _⟩ := X6.it.1.d.shape
  subst hq
  exact ⟨qa, _, qc, L6, own6, rfl, ⟨h.it.g.sn X6.it.2 (by decide), X6.it.1, h.it.c.sn X6.it.2 (by decide), h.it.o⟩⟩
theorem pn_step (h : Aside (Pn A w own W p room L v wb v b q kd id x nb)) (hid : id ≤ 4294967295) : Calls Tryd.prog 13 #[ptr p, .agg #[.int .i64 room, v], .agg #[.int .i64 kd, .int .u32 (id : Nat), .int .i64 x]] W fun e w' => ∃ qa ql qc L6 own6, e = .returned (.tuple #[.agg #[.int .i64 room, .slice qa ql qc], .bool true]) ∧ Aside (Pn A w own6 w' p room L6 (.slice qa ql qc) wb v b q kd id x nb) := by
  refine (step15 own W h.it.z.g h.it.z.t kd id x hid (by decide)).mono ?_
  rintro e w' ⟨v6, L6, own6, rfl, X6⟩
  obtain ⟨qa, qc, hq, _⟩ := X6.it.1.d.shape
  subst hq
  obtain ⟨r0, r1, hn⟩ := h.it.n
  exact ⟨qa, _, qc, L6, own6, rfl, ⟨⟨h.it.z.g.sn X6.it.2 (by decide), X6.it.1, h.it.z.c.sn X6.it.2 (by decide), h.it.z.o⟩, r0, r1, hn.sn X6.it.2 (by decide)⟩⟩
/-- behind the round's call: the next table in its box -/
def Nx15 (A : Nat → Addr) (w : World) (p : Nat) (room : Int) (wb nb : Nat) (v2 : Value) (W : World) : Prop := (W.cell? ⟨nb, 0, none⟩ = some (.int .i64 room) ∧ W.cell? ⟨nb, 1, none⟩ = some v2) ∧ ∃ own L v b q kd id x, Pz A w own W p room L v2 wb v b q kd id x
theorem Pz.made (h : Aside (Pz A w own W p room L vt wb v b q kd id x)) : Nx15 A w p room wb W.heap.size vt (W.alloc (.cells #[.int .i64 room, vt] 31)) := by
  have c := Cells.new W 31 [.int .i64 room, vt]
  exact ⟨⟨by rw [c.cell]; rfl, by rw [c.cell]; rfl⟩, own, L, v, b, q, kd, id, x, h.it.quiet ((Keeps.refl _ _).alloc _)⟩
theorem Pn.made (h : Aside (Pn A w own W p room L vt wb v b q kd id x nb)) : Nx15 A w p room wb nb vt ((W.setCell ⟨nb, 0, none⟩ (.int .i64 room)).setCell ⟨nb, 1, none⟩ vt) := by
  obtain ⟨r0, r1, hn⟩ := h.it.n
  have c := (hn.1.setCell 0 (.int .i64 room)).setCell 1 vt
  exact ⟨⟨by rw [c.cell]; rfl, by rw [c.cell]; rfl⟩, own, L, v, b, q, kd, id, x, h.it.write vt⟩

set_option maxRecDepth 20000 in
set_option maxHeartbeats 4000000 in
theorem tablePlays_walk {A : Nat → Addr} (a0 : Int) (s : Value) (zs : List OpV15) (w : World) (hs : Sents 148 codeVars A w) (hz : Ops15Arg w s zs) :
    Calls Tryd.prog 3 #[.int .i64 a0, s] w fun e w' => e = .returned (.bool true) ∧ Below w.heap.size w w' := by
  obtain ⟨hz, hz24⟩ := hz
  have HZ := Aside.mk hz
  obtain ⟨a, c, rfl, hzc, hcm, _⟩ := hz
  obtain ⟨N, hN⟩ : ∃ N, zs.length = N := ⟨_, rfl⟩
  have HN := Aside.mk hN
  rw [hN] at hzc hz24 ⊢
  have WK := Aside.mk (wakes15 hs)
  have HS := Aside.mk hs
  have hNm : (N : Int) ≤ 9223372036854775807 := by omega
  clear hs hN
  go_enter Tryd.func3, Tryd.ntmps3
  go_upto_region 3 with (go_at_call 9; refine WK.it.mono ?_; rintro e w1 ⟨rfl, K1⟩)
  clear WK
  have S1 := Aside.mk (HS.it.later K1.it.bel)
  by_cases h0 : a0 < 0
  · have NO := Aside.mk (new_no a0 h0 w1 S1.it)
    go_upto_region 4 with (go_at_call 10; refine NO.it.mono ?_; rintro e w2 ⟨rfl, K2⟩)
    have DN := Aside.mk (dnew a0 w2)
    rw [if_pos h0, if_pos h0] at DN
    go_upto_region 5 with (go_at_call 11; refine DN.it.mono ?_; rintro e w3 ⟨rfl, K3⟩)
    have S3 := Aside.mk ((S1.it.later K2.it.bel).later ((K3.it.alloc (.cells #[.int .i64 0, .slice none 0 0] 31))).bel)
    have CD := Aside.mk (code_of S3.it (Coded.mk 1 2 (by decide) (by decide) rfl))
    go_upto_region 8 with (go_at_call 12; refine CD.it.mono ?_; rintro e w4 ⟨rfl, hw4⟩; subst hw4)
    go_loopw [9] (fun v wr => v = .int .i64 0 ∧ wr = (w3.alloc (.cells #[.int .i64 0, .slice none 0 0] 31))) (fun _ _ => 0)
    case atStart => exact ⟨rfl, rfl⟩
    case round =>
      obtain ⟨rfl, rfl⟩ := hrel
      rcases Nat.eq_zero_or_pos N with rfl | hp
      · go_wp2_with fail
        go_quiet (fail)
        go_wp2_with fail
        go_ret
        exact ⟨rfl, ((K1.it.trans K2.it).trans ((K3.it.alloc _).drewN _)).bel⟩
      · have hd : decide ((0 : Int) < N) = true := decide_eq_true (by omega)
        have hp' : (0 : Int) < N := by omega
        go_wp2_with fail
        go_quiet (fail)
        go_wp2_with fail
        go_ret
        exact ⟨rfl, ((K1.it.trans K2.it).trans ((K3.it.alloc _).drewN _)).bel⟩
  · have h0' : 0 ≤ a0 := by omega
    have NW := Aside.mk (new_ok a0 h0' w1 (fun _ => 0) 1)
    go_upto_region 4 with (go_at_call 10; refine NW.it.mono ?_; rintro e w2 ⟨p, own2, rfl, X2⟩)
    have DN := Aside.mk (dnew a0 w2)
    have hneg : ¬ a0 < 0 := by omega
    rw [if_neg hneg, if_neg hneg] at DN
    clear hneg
    go_upto_region 5 with (go_at_call 11; refine DN.it.mono ?_; rintro e w3 ⟨rfl, K3⟩)
    have K34 := Aside.mk (K3.it.alloc (.cells #[.int .i64 a0, .slice none 0 0] 31))
    have G2 := Aside.mk ((OnG.start S1.it).sn X2.it.2.2 (fun x => x))
    have P4 : Aside (Pw A w1 (give own2 w2.heap.size 8) (w3.alloc (.cells #[.int .i64 a0, .slice none 0 0] 31)) p a0 [] (.slice none 0 0) w3.heap.size) := ⟨⟨G2.it.sn (I := fun _ => False) (Sn.quiet K34.it 8) (fun x => x), ⟨X2.it.1.sn (I := fun _ => False) (Sn.quiet K34.it 8) (fun x => x), RdD.nil _ _⟩, ⟨Cells.new w3 _ _, give_new K3.it.size⟩⟩⟩
    generalize give own2 w2.heap.size 8 = own4 at P4
    have CD := Aside.mk (code_nil (w3.alloc (.cells #[.int .i64 a0, .slice none 0 0] 31)))
    obtain ⟨wb, hwb⟩ : ∃ wb, w3.heap.size = wb := ⟨_, rfl⟩
    rw [hwb] at P4 ⊢
    clear hwb X2 NW DN G2 K34
    generalize (w3.alloc (.cells #[.int .i64 a0, .slice none 0 0] 31)) = W4 at P4 CD ⊢
    go_upto_region 8 with (go_at_call 12; refine CD.it.mono ?_; rintro e w5 ⟨rfl, hw5⟩; subst hw5)
    go_loopw [9, 10, 11] (fun v _ _ wr => ∃ (j : Nat) (L : Tl Int) (vv : Value) (own : Nat → Nat), v = .int .i64 j ∧ j ≤ N ∧ Aside (Pw A w1 own wr p a0 L vv wb)) (fun v _ _ _ => N - natOf v)
    case atStart => exact ⟨0, [], _, own4, rfl, Nat.zero_le _, P4⟩
    case round =>
      clear P4 CD
      obtain ⟨j, L, vv, own, rfl, hj, P⟩ := hrel
      obtain ⟨va, vc, hvv, hvl⟩ := P.it.t.d.shape
      subst hvv
      obtain ⟨nl, hnl⟩ : ∃ nl, L.length = nl := ⟨_, rfl⟩
      have HNL := Aside.mk hnl
      rw [hnl] at P hvl
      clear hnl
      rcases Nat.eq_or_lt_of_le hj with rfl | hlt
      · have Pd := Aside.mk (P.it.quiet (Keeps.refl _ _).drew)
        have enn : ((nl : Int) == nl) = true := by simp
        have KB := Aside.mk K1.it
        clear P
        go_upto_region 14 with fail
        go_region_held3 (fun w' => w'.cell? ⟨wb, 0, none⟩ = some (.int .i64 a0) ∧ w'.cell? ⟨wb, 1, none⟩ = some (.slice va nl vc)) (with_reducible exact Pw.h2 (by with_reducible assumption)) (first
          | (go_at_call 15; with_reducible refine (pw_len (by with_reducible assumption)).mono ?_; rintro e w9 ⟨rfl, P9⟩; rw [HNL.it])
          | (go_at_call 14; with_reducible refine (pw_walked (by with_reducible assumption) a0).mono ?_; rintro e w8 ⟨rfl, P8⟩)
          | fail)
        all_goals
          go_wp2_with fail
          go_ret
          exact ⟨rfl, (KB.it.trans P9.it.bel).bel⟩
      · obtain ⟨z, hz⟩ : ∃ z, zs[j]? = some z := ⟨_, List.getElem?_eq_getElem (by rw [HN.it]; exact hlt)⟩
        have hzw := HZ.it
        rw [HN.it] at hzw
        obtain ⟨b, o, rfl, x0, x1, x2, hid⟩ := op_cells (by rw [HN.it]; exact hzw) hz
        clear hz hzw
        obtain ⟨kd, id, x⟩ := z
        simp only at x0 x1 x2 hid
        have hbw : b < w1.heap.size := Nat.lt_of_lt_of_le (World.block_lt_of_cell? w _ x0) K1.it.size
        have Z0 : Aside (Pz A w1 own wr p a0 L (.slice va nl vc) wb (.slice va nl vc) b (o + j * 3) kd id x) := ⟨⟨P.it.g, P.it.t, P.it.c, hbw, by rw [World.cell?_of_block (w := w) (K1.it.block b (World.block_lt_of_cell? w _ x0) (fun x => x))]; exact x0, by rw [World.cell?_of_block (w := w) (K1.it.block b (World.block_lt_of_cell? w _ x0) (fun x => x))]; exact x1, by rw [World.cell?_of_block (w := w) (K1.it.block b (World.block_lt_of_cell? w _ x0) (fun x => x))]; exact x2⟩⟩
        have Zd := Aside.mk (Z0.it.quiet (Keeps.refl _ _).drew)
        have KK : Keeps Nowhere wr ((wr.alloc (.cells #[.int .i64 0, .slice none 0 0] 31)).drew) := ((Keeps.refl _ _).alloc _).drew
        have Nd : Aside (Pn A w1 (give own wr.heap.size 7) ((wr.alloc (.cells #[.int .i64 0, .slice none 0 0] 31)).drew) p a0 L (.slice va nl vc) wb (.slice va nl vc) b (o + j * 3) kd id x wr.heap.size) := ⟨⟨Z0.it.sn (I := fun _ => False) (Sn.quiet KK 7) (fun x => x) (fun x => x) (fun x => x) (fun x => x), _, _, ⟨(Cells.new wr _ [.int .i64 0, .slice none 0 0]).drew, give_new (Nat.le_refl _)⟩⟩⟩
        clear Z0 KK x0 x1 x2 hbw P
        go_upto_region 10 with fail
        go_cut [10, 11] from 35 to 57 (fun vn vo wx => ∃ (nb : Nat) (qa : Option Addr) (ql qc : Nat), vn = ptr nb ∧ vo = .bool true ∧ Aside (Nx15 A w1 p a0 wb nb (.slice qa ql qc) wx))
        case first =>
          go_region_held3 (fun w' => w'.cell? ⟨wb, 0, none⟩ = some (.int .i64 a0) ∧ w'.cell? ⟨wb, 1, none⟩ = some (.slice va nl vc) ∧ w'.cell? ⟨b, o + j * 3, none⟩ = some (.int .i64 kd) ∧ w'.cell? ⟨b, o + j * 3 + 1, none⟩ = some (.int .u32 (id : Nat)) ∧ w'.cell? ⟨b, o + j * 3 + 2, none⟩ = some (.int .i64 x)) (first | with_reducible exact Pz.h (by with_reducible assumption) | with_reducible exact Pn.h (by with_reducible assumption) | with_reducible exact Pz.hA (by with_reducible assumption) | with_reducible exact Pn.hS (by with_reducible assumption)) (first
            | (go_at_call 13; with_reducible refine (pz_step (by with_reducible assumption) hid).mono ?_; rintro e w6 ⟨qa, ql, qc, L6, own6, rfl, P6⟩)
            | (go_at_call 13; with_reducible refine (pn_step (by with_reducible assumption) hid).mono ?_; rintro e w7 ⟨qa, ql, qc, L6, own6, rfl, P7⟩; obtain ⟨r0, r1, f0, f1, f2, f3⟩ := Pn.res P7)
            | fail)
          all_goals go_wp2_with fail
          all_goals go_meet
          all_goals first
            | exact ⟨_, qa, ql, qc, rfl, rfl, ⟨Pz.made P6⟩⟩
            | exact ⟨_, qa, ql, qc, rfl, rfl, ⟨Pn.made P7⟩⟩
        case rest =>
        obtain ⟨nb, qa, ql, qc, rfl, rfl, NX⟩ := hcut
        obtain ⟨⟨m0, m1⟩, own2, L2, v2, b2, q2, kd2, id2, x2, ZZ⟩ := NX.it
        have PW : Aside (Pw A w1 own2 ((wc.setCell ⟨wb, 0, none⟩ (.int .i64 a0)).setCell ⟨wb, 1, none⟩ (.slice qa ql qc)) p a0 L2 (.slice qa ql qc) wb) := by
          have s8 : Sn (fun k => k = 8) own2 wc own2 ((wc.setCell ⟨wb, 0, none⟩ (.int .i64 a0)).setCell ⟨wb, 1, none⟩ (.slice qa ql qc)) := ⟨fun _ _ => rfl, ((Keeps.refl _ _).setCell _ _ (fun _ => ZZ.c.2)).setCell _ _ (fun _ => ZZ.c.2)⟩
          exact ⟨⟨ZZ.g.sn s8 (by decide), ZZ.t.sn s8 (by decide) (by decide), ⟨(ZZ.c.1.setCell 0 (.int .i64 a0)).setCell 1 (.slice qa ql qc), ZZ.c.2⟩⟩⟩
        have u0 : wc.cell? ⟨wb, 0, none⟩ = some (.int .i64 a0) := by rw [ZZ.c.1.cell]; rfl
        have u1 : wc.cell? ⟨wb, 1, none⟩ = some v2 := by rw [ZZ.c.1.cell]; rfl
        have u2 := ZZ.c.1.frozen 0
        have u3 := ZZ.c.1.frozen 1
        clear ZZ NX
        go_wp2_with fail
        go_roundw
        case rel => exact ⟨j + 1, L2, _, own2, by go_num, by omega, PW⟩
        case measure => simp [natOf]; omega
end Go.Proofs.YtbdnggkfpkfcoaaDoor
