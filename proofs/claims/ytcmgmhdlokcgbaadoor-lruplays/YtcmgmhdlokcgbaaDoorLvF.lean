/-
  culvertlaw28.step; LruAnswers
-/
import Derived.Test.YtcmgmhdlokcgbaaDoorLvE
import Derived.Deep.RegionHeld3
import Derived.Deep.Cut
namespace Go.Proofs.YtcmgmhdlokcgbaaDoor
open Go.RowKit Lulnn

variable {w w' w0 W W1 : World} {own own' o0 : Nat → Nat} {i c o j b q n rb tb : Nat} {room R k now : Int} {L L' M : List Rx} {I : Nat → Prop} {A : Nat → Addr} {x y : Rx} {z : Oz} {v va vb cv v2 : Value} {ks ms : List Int} {nl : Bool} {X : Bxs}

def nxtL (nl : Bool) (room : Int) (L : List Rx) (z : Oz) : List Rx := if z.kd = 1 then putV nl room L z else actL room L z
theorem nxtL_len (nl : Bool) (room : Int) (L : List Rx) (z : Oz) : (nxtL nl room L z).length ≤ L.length + 1 := by
  unfold nxtL putV
  have h1 := actL_len room L z
  have h2 : (putB room L z).length ≤ L.length + 1 := by
    unfold putB
    have := putL_len room L z.rx
    split <;> omega
  repeat' split
  all_goals omega
theorem step_ (g : OnG A w own w0) (h : Cv own 1 w0 cv nl room L) (hd : RdX own w0 v L) (hz : z.Ok) (hmax : (1 + L.length) * 32 ≤ 140737488355328) :
    Calls Tryd.prog 13 #[cv, cch room v, z.agg] w0 fun e w' => EndS A w own w0 cv nl room (nxtL nl room L z) e w' := by
  unfold nxtL putV actL
  by_cases h1 : z.kd = 1
  · rw [if_pos h1]
    cases h with
    | some h => exact step_put g (.some h) hd hz h1 hmax
    | none => exact step_putN g .none hd hz h1 hmax
  · rw [if_neg h1, if_neg h1]
    by_cases h2 : z.kd = 2
    · rw [if_pos h2]; exact step_get g h hd hz h2 (by omega)
    · rw [if_neg h2]
      by_cases h4 : z.kd = 4
      · rw [if_pos h4]; exact step_drop g h hd hz h4 hmax
      · rw [if_neg h4]
        by_cases h5 : z.kd = 5
        · rw [if_pos h5]; exact step_expire g h hd hz h5 hmax
        · rw [if_neg h5]
          by_cases h3 : z.kd = 3
          · exact step_peek g h hd hz h3 hmax
          · exact step_look g h hd h1 h2 h3 h4 h5 hmax
/-- a cache and the document's, in its box -/
structure Aw (A : Nat → Addr) (w : World) (own : Nat → Nat) (W : World) (cv : Value) (nl : Bool) (room : Int) (L : List Rx) (v : Value) (rb : Nat) : Prop where
  og : OnG A w own W
  c : Cv own 1 W cv nl room L
  d : RdX own W v L
  bx : CellsO own 8 W rb 31 [.int .i64 room, v]
theorem Aw.quiet (h : Aw A w own W cv nl room L v rb) (hk : Keeps Nowhere W w') : Aw A w own w' cv nl room L v rb := ⟨h.og.quiet hk, h.c.quiet hk, h.d.quiet hk, h.bx.sn (I := fun _ => False) (Sn.same hk) (fun x => x)⟩
theorem aw_step (h : Aside (Aw A w own W cv nl room L v rb)) (hz : z.Ok) (hmax : (1 + L.length) * 32 ≤ 140737488355328) : Calls Tryd.prog 13 #[cv, cch room v, z.agg] W fun e w' => ∃ qa qn qc own', e = .returned (.tuple #[cch room (.slice qa qn qc), .bool true]) ∧ Aside (OnG A w own' w' ∧ Cv own' 1 w' cv nl room (nxtL nl room L z) ∧ RdX own' w' (.slice qa qn qc) (nxtL nl room L z)) ∧ Aside (CellsO own' 8 w' rb 31 [.int .i64 room, v]) := by
  refine (step_ h.it.og h.it.c h.it.d hz hmax).mono ?_
  rintro e w' ⟨qa, qn, qc, own', rfl, J, S⟩
  exact ⟨qa, qn, qc, own', rfl, J, ⟨h.it.bx.sn S.it (by decide)⟩⟩
/-- the box takes the next rows -/
theorem Aw.put {v2 r0 r1 : Value} {L2 : List Rx} (g : OnG A w own W) (hc : Cv own 1 W cv nl room L2) (hd : RdX own W v2 L2) (hb : CellsO own 8 W rb 31 [r0, r1]) : Aw A w own ((W.setCell ⟨rb, 0, none⟩ (.int .i64 room)).setCell ⟨rb, 1, none⟩ v2) cv nl room L2 v2 rb := by
  have kk : Keeps (fun x => x = rb) W ((W.setCell ⟨rb, 0, none⟩ (.int .i64 room)).setCell ⟨rb, 1, none⟩ v2) := ((Keeps.refl (fun x => x = rb) W).setCell ⟨rb, 0, none⟩ _ (fun _ => rfl)).setCell ⟨rb, 1, none⟩ _ (fun _ => rfl)
  have s8 : Sn (fun k => k = 8) own W own ((W.setCell ⟨rb, 0, none⟩ (.int .i64 room)).setCell ⟨rb, 1, none⟩ v2) := ⟨fun _ _ => rfl, kk.mono (fun x e _ => by rw [e]; exact hb.2)⟩
  refine ⟨g.sn s8 (by decide), hc.sn s8 (by decide), hd.later kk (fun b' cur h e => ?_), ⟨(hb.1.setCell 0 (.int .i64 room)).setCell 1 v2, hb.2⟩⟩
  rw [e, hb.1] at h
  simp at h
/-- within a round: the next rows vt, the box with the old ones, the op of the script -/
structure Az (A : Nat → Addr) (w : World) (own : Nat → Nat) (W : World) (cv : Value) (nl : Bool) (room : Int) (L : List Rx) (vt v : Value) (rb b q : Nat) (z : Oz) : Prop where
  og : OnG A w own W
  c : Cv own 1 W cv nl room L
  d : RdX own W vt L
  bx : CellsO own 8 W rb 31 [.int .i64 room, v]
  o : OpA w b q z
variable {vt : Value} {nb : Nat}
theorem Az.sn (h : Az A w own W cv nl room L vt v rb b q z) (s : Sn I own W own' w') (h0 : ¬ I 0) (h1 : ¬ I 1) (h8 : ¬ I 8) (h9 : ¬ I 9) : Az A w own' w' cv nl room L vt v rb b q z := ⟨h.og.sn s h0, h.c.sn s h1, h.d.sn s h9, h.bx.sn s h8, h.o⟩
theorem Az.quiet (h : Az A w own W cv nl room L vt v rb b q z) (hk : Keeps Nowhere W w') : Az A w own w' cv nl room L vt v rb b q z := h.sn (I := fun _ => False) (Sn.same hk) (fun x => x) (fun x => x) (fun x => x) (fun x => x)
theorem Az.h0 (h : Az A w own W cv nl room L vt v rb b q z) : (W.cell? ⟨rb, 0, none⟩ = some (.int .i64 room) ∧ W.cell? ⟨rb, 1, none⟩ = some v) ∧ W.cell? ⟨b, q, none⟩ = some (.int .i64 z.kd) ∧ W.cell? ⟨b, q + 1, none⟩ = some (.int .i64 z.k) ∧ W.cell? ⟨b, q + 2, none⟩ = some (.int .i64 z.v) ∧ W.cell? ⟨b, q + 3, none⟩ = some (.int .i64 z.w) ∧ W.cell? ⟨b, q + 4, none⟩ = some (.int .i64 z.u) := by
  obtain ⟨h1, h2, h3, h4, h5, _⟩ := h.o.later h.og.g.bel
  exact ⟨⟨by rw [h.bx.1.cell]; rfl, by rw [h.bx.1.cell]; rfl⟩, h1, h2, h3, h4, h5⟩
theorem Az.h (h : Aside (Az A w own W cv nl room L vt v rb b q z)) : (W.cell? ⟨rb, 0, none⟩ = some (.int .i64 room) ∧ W.cell? ⟨rb, 1, none⟩ = some v) ∧ W.cell? ⟨b, q, none⟩ = some (.int .i64 z.kd) ∧ W.cell? ⟨b, q + 1, none⟩ = some (.int .i64 z.k) ∧ W.cell? ⟨b, q + 2, none⟩ = some (.int .i64 z.v) ∧ W.cell? ⟨b, q + 3, none⟩ = some (.int .i64 z.w) ∧ W.cell? ⟨b, q + 4, none⟩ = some (.int .i64 z.u) := h.it.h0
theorem Az.hA (h : Aside (Az A w own W cv nl room L vt v rb b q z)) {ob : Obj} : ((W.alloc ob).cell? ⟨rb, 0, none⟩ = some (.int .i64 room) ∧ (W.alloc ob).cell? ⟨rb, 1, none⟩ = some v) ∧ (W.alloc ob).cell? ⟨b, q, none⟩ = some (.int .i64 z.kd) ∧ (W.alloc ob).cell? ⟨b, q + 1, none⟩ = some (.int .i64 z.k) ∧ (W.alloc ob).cell? ⟨b, q + 2, none⟩ = some (.int .i64 z.v) ∧ (W.alloc ob).cell? ⟨b, q + 3, none⟩ = some (.int .i64 z.w) ∧ (W.alloc ob).cell? ⟨b, q + 4, none⟩ = some (.int .i64 z.u) := (h.it.quiet ((Keeps.refl _ _).alloc ob)).h0
/-- and a box laid ahead of the call -/
structure An (A : Nat → Addr) (w : World) (own : Nat → Nat) (W : World) (cv : Value) (nl : Bool) (room : Int) (L : List Rx) (vt v : Value) (rb b q : Nat) (z : Oz) (nb : Nat) : Prop where
  z : Az A w own W cv nl room L vt v rb b q z
  n : ∃ r0 r1, CellsO own 7 W nb 31 [r0, r1]
theorem An.h (h : Aside (An A w own W cv nl room L vt v rb b q z nb)) : (W.cell? ⟨rb, 0, none⟩ = some (.int .i64 room) ∧ W.cell? ⟨rb, 1, none⟩ = some v) ∧ W.cell? ⟨b, q, none⟩ = some (.int .i64 z.kd) ∧ W.cell? ⟨b, q + 1, none⟩ = some (.int .i64 z.k) ∧ W.cell? ⟨b, q + 2, none⟩ = some (.int .i64 z.v) ∧ W.cell? ⟨b, q + 3, none⟩ = some (.int .i64 z.w) ∧ W.cell? ⟨b, q + 4, none⟩ = some (.int .i64 z.u) := h.it.z.h0
theorem An.write (h : An A w own W cv nl room L vt v rb b q z nb) (x y : Value) : Az A w own ((W.setCell ⟨nb, 0, none⟩ x).setCell ⟨nb, 1, none⟩ y) cv nl room L vt v rb b q z := by
  obtain ⟨r0, r1, hn⟩ := h.n
  have s7 : Sn (fun k => k = 7) own W own ((W.setCell ⟨nb, 0, none⟩ x).setCell ⟨nb, 1, none⟩ y) := ⟨fun _ _ => rfl, ((Keeps.refl _ _).setCell _ _ (fun _ => hn.2)).setCell _ _ (fun _ => hn.2)⟩
  exact h.z.sn s7 (by decide) (by decide) (by decide) (by decide)
theorem An.hS (h : Aside (An A w own W cv nl room L vt v rb b q z nb)) {x y : Value} : (((W.setCell ⟨nb, 0, none⟩ x).setCell ⟨nb, 1, none⟩ y).cell? ⟨rb, 0, none⟩ = some (.int .i64 room) ∧ ((W.setCell ⟨nb, 0, none⟩ x).setCell ⟨nb, 1, none⟩ y).cell? ⟨rb, 1, none⟩ = some v) ∧ ((W.setCell ⟨nb, 0, none⟩ x).setCell ⟨nb, 1, none⟩ y).cell? ⟨b, q, none⟩ = some (.int .i64 z.kd) ∧ ((W.setCell ⟨nb, 0, none⟩ x).setCell ⟨nb, 1, none⟩ y).cell? ⟨b, q + 1, none⟩ = some (.int .i64 z.k) ∧ ((W.setCell ⟨nb, 0, none⟩ x).setCell ⟨nb, 1, none⟩ y).cell? ⟨b, q + 2, none⟩ = some (.int .i64 z.v) ∧ ((W.setCell ⟨nb, 0, none⟩ x).setCell ⟨nb, 1, none⟩ y).cell? ⟨b, q + 3, none⟩ = some (.int .i64 z.w) ∧ ((W.setCell ⟨nb, 0, none⟩ x).setCell ⟨nb, 1, none⟩ y).cell? ⟨b, q + 4, none⟩ = some (.int .i64 z.u) := (h.it.write x y).h0
theorem An.res (h : Aside (An A w own W cv nl room L vt v rb b q z nb)) : ∃ r0 r1, W.cell? ⟨nb, 0, none⟩ = some r0 ∧ W.cell? ⟨nb, 1, none⟩ = some r1 ∧ W.frozen? ⟨nb, 0, none⟩ = false ∧ W.frozen? ⟨nb, 1, none⟩ = false := by
  obtain ⟨r0, r1, h2⟩ := h.it.n
  exact ⟨r0, r1, by rw [h2.1.cell]; rfl, by rw [h2.1.cell]; rfl, h2.1.frozen 0, h2.1.frozen 1⟩
theorem az_step (h : Aside (Az A w own W cv nl room L v v rb b q z)) (hm : L.length ≤ 2000) : Calls Tryd.prog 13 #[cv, cch room v, z.agg] W fun e w' => ∃ (qa : Option Addr) (qn qc : Nat) (own6 : Nat → Nat), e = .returned (.tuple #[cch room (.slice qa qn qc), .bool true]) ∧ Aside (Az A w own6 w' cv nl room (nxtL nl room L z) (.slice qa qn qc) v rb b q z) := by
  refine (step_ h.it.og h.it.c h.it.d h.it.o.ok (by omega)).mono ?_
  rintro e w' ⟨qa, qn, qc, own', rfl, J, S⟩
  exact ⟨qa, qn, qc, own', rfl, ⟨J.it.1, J.it.2.1, J.it.2.2, h.it.bx.sn S.it (by decide), h.it.o⟩⟩
theorem an_step (h : Aside (An A w own W cv nl room L v v rb b q z nb)) (hm : L.length ≤ 2000) : Calls Tryd.prog 13 #[cv, cch room v, z.agg] W fun e w' => ∃ (qa : Option Addr) (qn qc : Nat) (own6 : Nat → Nat), e = .returned (.tuple #[cch room (.slice qa qn qc), .bool true]) ∧ Aside (An A w own6 w' cv nl room (nxtL nl room L z) (.slice qa qn qc) v rb b q z nb) := by
  obtain ⟨r0, r1, hn⟩ := h.it.n
  refine (step_ h.it.z.og h.it.z.c h.it.z.d h.it.z.o.ok (by omega)).mono ?_
  rintro e w' ⟨qa, qn, qc, own', rfl, J, S⟩
  exact ⟨qa, qn, qc, own', rfl, ⟨⟨J.it.1, J.it.2.1, J.it.2.2, h.it.z.bx.sn S.it (by decide), h.it.z.o⟩, r0, r1, hn.sn S.it (by decide)⟩⟩
/-- behind the round's call: the next one in its box -/
def Nx28 (A : Nat → Addr) (w : World) (cv : Value) (nl : Bool) (room : Int) (rb nb : Nat) (L2 : List Rx) (v2 : Value) (W : World) : Prop := (W.cell? ⟨nb, 0, none⟩ = some (.int .i64 room) ∧ W.cell? ⟨nb, 1, none⟩ = some v2) ∧ ∃ own v b q z, Az A w own W cv nl room L2 v2 v rb b q z
theorem Az.made (h : Aside (Az A w own W cv nl room L vt v rb b q z)) : Nx28 A w cv nl room rb W.heap.size L vt (W.alloc (.cells #[.int .i64 room, vt] 31)) := by
  have e := Cells.new W 31 [.int .i64 room, vt]
  exact ⟨⟨by rw [e.cell]; rfl, by rw [e.cell]; rfl⟩, own, v, b, q, z, h.it.quiet ((Keeps.refl _ _).alloc _)⟩
theorem An.made (h : Aside (An A w own W cv nl room L vt v rb b q z nb)) : Nx28 A w cv nl room rb nb L vt ((W.setCell ⟨nb, 0, none⟩ (.int .i64 room)).setCell ⟨nb, 1, none⟩ vt) := by
  obtain ⟨r0, r1, hn⟩ := h.it.n
  have e := (hn.1.setCell 0 (.int .i64 room)).setCell 1 vt
  exact ⟨⟨by rw [e.cell]; rfl, by rw [e.cell]; rfl⟩, own, v, b, q, z, h.it.write _ _⟩
set_option maxHeartbeats 4000000 in
set_option maxRecDepth 20000 in
theorem lruAnswers_walk {A : Nat → Addr} (room : Int) (v1 : Value) (ys : List Oz) (w : World) (hs : Sents 170 codeVars A w) (hwf : (Lit.int .i64 room).wf = true) (h1 : Ops28Arg w v1 ys) :
    Calls Tryd.prog 4 #[.int .i64 room, v1] w fun e w' => e = .returned (.bool true) ∧ Below w.heap.size w w' := by
  have AW := Aside.mk (awake_ok hs)
  have hr : I6 room := lu_wf hwf
  have HS := Aside.mk hs
  clear hs hwf
  rcases Int.lt_or_le room 0 with hneg | hpos
  · go_enter Tryd.func4, Tryd.ntmps4
    go_upto_region 3 with (first | (go_at_call 9; refine AW.it.mono ?_; clear AW; rintro e w1 ⟨rfl, K1⟩) | fail)
    have N1 := Aside.mk (new_neg (HS.it.later K1.it.bel) hneg)
    go_upto_region 4 with (first | (go_at_call 10; refine N1.it.mono ?_; clear N1; rintro e w2 ⟨rfl, K2⟩) | fail)
    have DN := Aside.mk (dnew w2 room)
    rw [if_pos hneg, if_pos hneg] at DN
    go_upto_region 5 with (first | (go_at_call 11; refine DN.it.mono ?_; clear DN; rintro e w3 ⟨rfl, K3⟩) | fail)
    have K4 : Aside (Keeps Nowhere w (w3.alloc (.cells #[.int .i64 0, .slice none 0 0] 31))) := ⟨((K1.it.trans K2.it).trans K3.it).alloc _⟩
    generalize w3.alloc (.cells #[.int .i64 0, .slice none 0 0] 31) = w4 at K4 ⊢
    go_wp2_with fail
    go_ret
    exact ⟨rfl, K4.it.bel⟩
  · obtain ⟨L1, B1⟩ := h1
    have C1 := L1
    obtain ⟨q1, c1, rfl, hc1, hx1, _⟩ := C1
    have O1 := Aside.mk (fun i z (hi : ys[i]? = some z) => oz_at L1 hi)
    clear L1
    obtain ⟨n1, hn1⟩ : ∃ n, ys.length = n := ⟨_, rfl⟩
    have E1 := Aside.mk hn1
    rw [hn1] at B1 hc1 ⊢
    clear hn1
    have mx : maxLen ≤ 9223372036854775807 := by decide
    go_enter Tryd.func4, Tryd.ntmps4
    go_upto_region 3 with (first | (go_at_call 9; refine AW.it.mono ?_; clear AW; rintro e w1 ⟨rfl, K1⟩) | fail)
    have G1 := Aside.mk ((OnG.start HS.it).quiet K1.it)
    have N1 := Aside.mk (new_pos (fun _ => 0) 1 w1 hpos hr.2)
    go_upto_region 4 with (first | (go_at_call 10; refine N1.it.mono ?_; clear N1; rintro e w2 ⟨ca, rfl, A2, K2⟩) | fail)
    have G2 := Aside.mk (G1.it.sn (I := fun _ => False) (Sn.quiet K2.it 1) (fun x => x))
    have DN := Aside.mk (dnew w2 room)
    rw [if_neg (show ¬ room < 0 by omega), if_neg (show ¬ room < 0 by omega)] at DN
    go_upto_region 5 with (first | (go_at_call 11; refine DN.it.mono ?_; clear DN; rintro e w3 ⟨rfl, K3⟩) | fail)
    have KB : Aside (Keeps Nowhere w3 (w3.alloc (.cells #[.int .i64 room, .slice none 0 0] 31))) := ⟨(Keeps.refl _ _).alloc _⟩
    have X4 : Aside (Aw A w (give (give (fun _ => 0) w1.heap.size 1) w3.heap.size 8) (w3.alloc (.cells #[.int .i64 room, .slice none 0 0] 31)) (ptr ca) false room [] (.slice none 0 0) w3.heap.size) := ⟨(G2.it.quiet K3.it).sn (I := fun _ => False) (Sn.quiet KB.it 8) (fun x => x), .some ((A2.it.quiet K3.it).sn (I := fun _ => False) (Sn.quiet KB.it 8) (fun x => x)), RdX.nil _ _, ⟨Cells.new w3 _ _, give_new (Nat.le_refl _)⟩⟩
    generalize give (give (fun _ => 0) w1.heap.size 1) w3.heap.size 8 = own0 at X4
    generalize w3.alloc (.cells #[.int .i64 room, .slice none 0 0] 31) = w4 at X4 ⊢
    generalize w3.heap.size = rb at X4 ⊢
    clear G1 G2 A2 K1 K2 K3 KB
    go_upto_region 8 with fail
    go_loopw [9] (fun iv wr => ∃ (m : Nat) (own : Nat → Nat) (L : List Rx) (qa : Option Addr) (qn qc : Nat), iv = .int .i64 m ∧ (m ≤ n1 ∧ m ≤ 2000) ∧ L.length ≤ m ∧ Aside (Aw A w own wr (ptr ca) false room L (.slice qa qn qc) rb)) (fun iv _ => n1 - natI iv)
    case atStart => exact ⟨0, own0, [], none, 0, 0, rfl, ⟨Nat.zero_le _, Nat.zero_le _⟩, Nat.le_refl _, X4⟩
    case round =>
      clear X4
      obtain ⟨m, own, L, qa, qn, qc, rfl, hm, hl, X⟩ := hrel
      have c0 := X.it.bx.1.cell 0
      have c1' := X.it.bx.1.cell 1
      simp only [List.getElem?_cons_zero, List.getElem?_cons_succ] at c0 c1'
      by_cases hlt : m < n1 ∧ m < 2000
      · have k1 : (m : Int) < (n1 : Int) := by omega
        have k2 : (m : Int) < 2000 := by omega
        obtain ⟨z, hz⟩ : ∃ z, ys[m]? = some z := ⟨_, List.getElem?_eq_getElem (by rw [E1.it]; exact hlt.1)⟩
        obtain ⟨b, o, rfl, op0⟩ := O1.it m z hz
        obtain ⟨g0, g1, g2, g3, g4, zok⟩ := op0.later X.it.og.g.bel
        have OP := Aside.mk op0
        clear op0 hz
        by_cases hk : 1 ≤ z.kd ∧ z.kd ≤ 5
        · have q1 : ¬ z.kd < 1 := by omega
          have q2 : ¬ 5 < z.kd := by omega
          have Z0 : Aside (Az A w own wr (ptr ca) false room L (.slice qa qn qc) (.slice qa qn qc) rb b (o + m * 5) z) := ⟨X.it.og, X.it.c, X.it.d, X.it.bx, OP.it⟩
          have Zd := Aside.mk (Z0.it.quiet (Keeps.refl _ _).drew)
          have KK : Keeps Nowhere wr ((wr.alloc (.cells #[.int .i64 0, .slice none 0 0] 31)).drew) := ((Keeps.refl _ _).alloc _).drew
          have Nd : Aside (An A w (give own wr.heap.size 7) ((wr.alloc (.cells #[.int .i64 0, .slice none 0 0] 31)).drew) (ptr ca) false room L (.slice qa qn qc) (.slice qa qn qc) rb b (o + m * 5) z wr.heap.size) := ⟨⟨Z0.it.sn (I := fun _ => False) (Sn.quiet KK 7) (fun x => x) (fun x => x) (fun x => x) (fun x => x), _, _, ⟨(Cells.new wr _ [.int .i64 0, .slice none 0 0]).drew, give_new (Nat.le_refl _)⟩⟩⟩
          have hl2 : L.length ≤ 2000 := by omega
          go_upto_region 11 with fail
          clear Z0 KK c0 c1' g0 g1 g2 g3 g4 X OP
          go_cut [10, 11] from 52 to 61 (fun vn vo wx => ∃ (nb : Nat) (ra : Option Addr) (rn rc : Nat), vn = ptr nb ∧ vo = .bool true ∧ Aside (Nx28 A w (ptr ca) false room rb nb (nxtL false room L z) (.slice ra rn rc) wx))
          case first =>
            go_region_held3 (fun w' => (w'.cell? ⟨rb, 0, none⟩ = some (.int .i64 room) ∧ w'.cell? ⟨rb, 1, none⟩ = some (.slice qa qn qc)) ∧ w'.cell? ⟨b, o + m * 5, none⟩ = some (.int .i64 z.kd) ∧ w'.cell? ⟨b, o + m * 5 + 1, none⟩ = some (.int .i64 z.k) ∧ w'.cell? ⟨b, o + m * 5 + 2, none⟩ = some (.int .i64 z.v) ∧ w'.cell? ⟨b, o + m * 5 + 3, none⟩ = some (.int .i64 z.w) ∧ w'.cell? ⟨b, o + m * 5 + 4, none⟩ = some (.int .i64 z.u)) (first | with_reducible exact Az.h (by with_reducible assumption) | with_reducible exact An.h (by with_reducible assumption) | with_reducible exact Az.hA (by with_reducible assumption) | with_reducible exact An.hS (by with_reducible assumption)) (first
              | (go_at_call 13; with_reducible refine (az_step (by with_reducible assumption) hl2).mono ?_; rintro e w6 ⟨ra, rn, rc, own6, rfl, P6⟩)
              | (go_at_call 13; with_reducible refine (an_step (by with_reducible assumption) hl2).mono ?_; rintro e w7 ⟨ra, rn, rc, own6, rfl, P7⟩; obtain ⟨r0, r1, f0, f1, f2, f3⟩ := An.res P7)
              | fail)
            all_goals go_wp2_with fail
            all_goals go_meet
            all_goals first
              | exact ⟨_, ra, rn, rc, rfl, rfl, ⟨Az.made P6⟩⟩
              | exact ⟨_, ra, rn, rc, rfl, rfl, ⟨An.made P7⟩⟩
          case rest =>
          obtain ⟨nb, ra, rn, rc, rfl, rfl, NX⟩ := hcut
          obtain ⟨⟨m0, m1⟩, own2, v2, b2, q2, z2, ZZ⟩ := NX.it
          have PW := Aside.mk (Aw.put ZZ.og ZZ.c ZZ.d ZZ.bx)
          have u0 : wc.cell? ⟨rb, 0, none⟩ = some (.int .i64 room) := by rw [ZZ.bx.1.cell]; rfl
          have u1 : wc.cell? ⟨rb, 1, none⟩ = some v2 := by rw [ZZ.bx.1.cell]; rfl
          have u2 := ZZ.bx.1.frozen 0
          have u3 := ZZ.bx.1.frozen 1
          have hnl := nxtL_len false room L z
          clear ZZ NX Zd Nd
          go_wp2_with fail
          go_roundw
          case rel => exact ⟨m + 1, own2, _, ra, rn, rc, by go_num, by omega, by omega, PW⟩
          case measure => simp [natI]; omega
        · have HK : z.kd < 1 ∨ 5 < z.kd := by omega
          rcases Int.lt_or_le z.kd 1 with q1 | q1
          · clear HK
            go_wp2_with fail
            go_roundw
            case rel => exact ⟨m + 1, own, L, qa, qn, qc, by go_num, by omega, by omega, X⟩
            case measure => simp [natI]; omega
          · have q2 : 5 < z.kd := by omega
            clear HK
            go_wp2_with fail
            go_roundw
            case rel => exact ⟨m + 1, own, L, qa, qn, qc, by go_num, by omega, by omega, X⟩
            case measure => simp [natI]; omega
      · have LO := Aside.mk (looks_ X.it.c X.it.d (by omega))
        rcases Nat.lt_or_ge m n1 with hm5 | hm5
        · obtain rfl : m = 2000 := by omega
          have j4 : ((2000 : Nat) : Int) < (n1 : Int) := by omega
          go_wp2_with (first | (go_at_call 14; refine LO.it.mono ?_; clear LO; rintro e w8 ⟨rfl, K8⟩) | fail)
          go_ret
          exact ⟨rfl, (X.it.og.quiet K8.it).g.bel⟩
        · obtain rfl : m = n1 := by omega
          go_wp2_with (first | (go_at_call 14; refine LO.it.mono ?_; clear LO; rintro e w8 ⟨rfl, K8⟩) | fail)
          go_ret
          exact ⟨rfl, (X.it.og.quiet K8.it).g.bel⟩
end Go.Proofs.YtcmgmhdlokcgbaaDoor
