/-
  OutPlays, walked.
-/
import Derived.Test.YtlooiikddachdaaDoorOStep1
import Derived.Test.YtlooiikddachdaaDoorOStep4
namespace Go.Proofs.YtlooiikddachdaaDoor
open Go.RowKit

section
variable {own own' own1 : Nat → Nat} {w w' w1 W : World} {p tot : Nat} {rs : List (List Int)}

def stepL (rs : List (List Int)) (z : OpV6) : List (List Int) := if z.kind = 1 then putL rs z.h.v z.h.t z.h.f z.h.s z.h.l z.ns else if z.kind = 2 then leftN rs z.n.toNat else if z.kind = 4 then [] else rs
theorem BufO.more {tot' : Nat} {i j : Nat} (h : BufO own i j w p rs tot) (ht : tot ≤ tot') : BufO own i j w p rs tot' := by
  obtain ⟨qp, q, hb⟩ := h
  exact ⟨qp, q, { hb with tot := Nat.le_trans hb.tot ht }⟩
theorem Stepped6.more {tot' : Nat} {e : Ending} (h : Stepped6 own w p rs tot e w') (ht : tot ≤ tot') : Stepped6 own w p rs tot' e w' := by
  obtain ⟨a, l, c, own', he, X⟩ := h
  exact ⟨a, l, c, own', he, ⟨X.it.1.more ht, X.it.2⟩⟩
theorem step_any6 {A : Nat → Addr} {w00 : World} (a : Option Addr) (l c : Nat) (h : BufO own 1 2 w p rs tot) (hr : RdL own 3 w (.slice a l c) rs) (g : OnG A w00 own w) (z : OpV6) (cs : List Value) (hz : Op6Ok w00 1048576 z cs) (htot : tot ≤ 4398044413932) :
    Calls Tryd.prog 9 #[ptr p, .agg #[.slice a l c], .agg z.cells.toArray] w fun e w' => Stepped6 own w p (stepL rs z) (tot + 1048588) e w' := by
  obtain ⟨_, hh, hd, _, _, hn⟩ := hz
  have hsl : ∃ a l c, z.sl = .slice a l c := by obtain ⟨a, c, e⟩ := hd.shape; exact ⟨_, _, _, e⟩
  unfold stepL
  by_cases h1 : z.kind = 1
  · rw [if_pos h1]
    exact step_put6 a l c h hr g z h1 hh hd hn htot
  · rw [if_neg h1]
    by_cases h2 : z.kind = 2
    · rw [if_pos h2]
      exact (step_take6 a l c h hr z hsl h2 (by omega)).mono fun e w' x => x.more (by omega)
    · rw [if_neg h2]
      by_cases h4 : z.kind = 4
      · rw [if_pos h4]
        exact (step_clear6 a l c h hr z hsl h4 (by omega)).mono fun e w' x => x.more (by omega)
      · rw [if_neg h4]
        by_cases h3 : z.kind = 3
        · exact (step_len6 a l c h hr z hsl h3 (by omega)).mono fun e w' x => x.more (by omega)
        · exact (step_none6 a l c h hr z hsl ⟨h1, h2, h3, h4⟩).mono fun e w' x => x.more (by omega)

/-- the play: buffer and document's, the document's in the box b -/
structure Pl6 (A : Nat → Addr) (w00 : World) (p b : Nat) (fv : Value) (rs : List (List Int)) (tot : Nat) (own : Nat → Nat) (W : World) : Prop where
  buf : BufO own 1 2 W p rs tot
  ref : RdL own 3 W fv rs
  g : OnG A w00 own W
  box : CellsO own 0 W b 28 [fv]
theorem Pl6.sn0 {A : Nat → Addr} {w00 : World} {b : Nat} {fv : Value} (h : Pl6 A w00 p b fv rs tot own W) (s : Sn (fun _ => False) own W own' w') : Pl6 A w00 p b fv rs tot own' w' :=
  ⟨h.buf.sn s (fun x => x) (fun x => x), h.ref.sn s (fun x => x), h.g.sn s (fun x => x), h.box.sn s (fun x => x)⟩
theorem Pl6.step {A : Nat → Addr} {w00 : World} {b : Nat} {a : Option Addr} {l c : Nat} (h : Pl6 A w00 p b (.slice a l c) rs tot own W) (z : OpV6) (cs : List Value) (hz : Op6Ok w00 1048576 z cs) (htot : tot ≤ 4398044413932) :
    Calls Tryd.prog 9 #[ptr p, .agg #[.slice a l c], .agg z.cells.toArray] W fun e w' => ∃ a' l' c' own', e = .returned (.tuple #[.agg #[.slice a' l' c'], .bool true]) ∧
      Aside ((BufO own' 1 2 w' p (stepL rs z) (tot + 1048588) ∧ RdL own' 3 w' (.slice a' l' c') (stepL rs z) ∧ OnG A w00 own' w' ∧ CellsO own' 0 w' b 28 [.slice a l c]) ∧ Sn OneTwo own W own' w') := by
  refine (step_any6 a l c h.buf h.ref h.g z cs hz htot).mono ?_
  rintro e w' ⟨a', l', c', own', rfl, X⟩
  exact ⟨a', l', c', own', rfl, ⟨⟨X.it.1, X.it.2.1, h.g.sn X.it.2.2 ot0, h.box.sn X.it.2.2 ot0⟩, X.it.2.2⟩⟩
/-- the document's new list is laid into the box -/
theorem Pl6.put {A : Nat → Addr} {w00 : World} {b : Nat} {fv : Value} {x : Value} (hb : BufO own 1 2 W p rs tot) (hr : RdL own 3 W fv rs) (hg : OnG A w00 own W) (hx : CellsO own 0 W b 28 [x]) (hle : w00.heap.size ≤ b) : Pl6 A w00 p b fv rs tot own (W.setCell ⟨b, 0, none⟩ fv) := by
  have s : Sn (fun k => k = 0) own W own (W.setCell ⟨b, 0, none⟩ fv) := ⟨fun _ _ => rfl, (Keeps.refl _ _).setCell _ _ (fun _ => hx.2)⟩
  refine ⟨hb.sn s (by decide) (by decide), hr.sn s (by decide), ⟨⟨hg.g.zero, below_next hg.g.bel (S := fun k => k = b) ((Keeps.refl _ _).setCell _ _ (fun _ => rfl)) hg.g.size (fun k e _ => by omega), Nat.le_trans hg.g.size s.keeps.size⟩, hg.s⟩, ⟨hx.1.setCell 0 fv, hx.2⟩⟩

/-- what is read while a round goes on: the document's box, the script's op -/
def Held6 (b : Nat) (fv : Value) (sb o : Nat) (cs : List Value) (W : World) : Prop := W.cell? ⟨b, 0, none⟩ = some fv ∧ (∀ j, j < 8 → W.cell? ⟨sb, o + j, none⟩ = cs[j]?) ∧ cs.length = 8
section
variable {b sb o : Nat} {fv : Value} {cs : List Value}
theorem Held6.keep {S : Nat → Prop} (h : Held6 b fv sb o cs W) (hk : Keeps S W w') (h1 : ¬ S b) (h2 : ¬ S sb) : Held6 b fv sb o cs w' := by
  refine ⟨?_, fun j hj => ?_, h.2.2⟩
  · rw [World.cell?_of_block (w := W) (hk.block b (World.block_lt_of_cell? W _ h.1) h1)]; exact h.1
  · have h3 := h.2.1 j hj
    rw [List.getElem?_eq_getElem (by rw [h.2.2]; exact hj)] at h3 ⊢
    rw [World.cell?_of_block (w := W) (hk.block sb (World.block_lt_of_cell? W _ h3) h2)]
    exact h3
theorem Held6.quiet (h : Held6 b fv sb o cs W) (hk : Keeps Nowhere W w') : Held6 b fv sb o cs w' := h.keep hk (fun x => x) (fun x => x)
end
theorem succ_room {k : Nat} (h : k * 1048588 ≤ 4398044413932) : (k + 1) * 1048588 ≤ 4398046511103 :=
  Nat.le_trans (Nat.le_of_eq (Nat.succ_mul k 1048588)) (Nat.le_trans (Nat.add_le_add_right h 1048588) (Nat.le_of_ble_eq_true rfl))
def lenOp : OpV6 := ⟨3, ⟨0, 0, 0, 0, 0⟩, .slice none 0 0, [], 0⟩
theorem lenOp_sl : lenOp.sl = .slice none 0 0 := rfl
theorem lenOp_kind : lenOp.kind = 3 := rfl
set_option maxRecDepth 20000 in
set_option maxHeartbeats 4000000 in
theorem outPlays_walkU {A : Nat → Addr} (script : Value) (zs : List OpV6) (w : World) (hs : Sents 108 codeVars A w) (hz : Ops6Arg w script zs) :
    Calls Tryd.prog 3 #[script] w fun e w' => e = .returned (.bool true) ∧ Below w.heap.size w w' := by
  obtain ⟨hlen, sa, sc, rfl, hlc, _, hat⟩ := hz
  obtain ⟨M, hM⟩ : ∃ M, Aside (M = zs.length) := ⟨_, ⟨rfl⟩⟩
  rw [← hM.it] at hlen hlc ⊢
  have WK := Aside.mk (wakes_any hs)
  have G0 := Aside.mk (OnG.start hs)
  have HAT := Aside.mk hat
  have HL := Aside.mk hlen
  have hM63 : (M : Int) ≤ 9223372036854775807 := by omega
  clear hs hat
  go_enter Tryd.func3, Tryd.ntmps3
  go_upto_region 5 with (first | (go_at_call 7; refine WK.it.mono ?_; rintro e w1 ⟨rfl, b1⟩; have G1 := Aside.mk (G0.it.quiet (Keeps.ofBelow (S := Nowhere) b1)); have NB := Aside.mk (newB w1 (fun _ => 0) 1 2); clear b1) | (go_at_call 8; refine NB.it.mono ?_; rintro e w2 ⟨p, own2, rfl, X2⟩) | fail)
  obtain ⟨W3, hW3⟩ : ∃ W3, W3 = w2.alloc (.cells #[.slice none 0 0] 28) := ⟨_, rfl⟩
  have P3 : Aside (Pl6 A w p w2.heap.size (.slice none 0 0) [] 0 (give own2 w2.heap.size 0) W3) := by
    have k3 : Keeps Nowhere w2 W3 := by rw [hW3]; exact (Keeps.refl _ _).alloc _
    have s3 : Sn (fun _ => False) own2 w2 (give own2 w2.heap.size 0) W3 := Sn.quiet k3 0
    exact ⟨X2.it.1.sn s3 (fun x => x) (fun x => x), RdL.nil _ _ _, (G1.it.sn X2.it.2 (fun x => x)).sn s3 (fun x => x), ⟨by rw [hW3]; exact Cells.new w2 _ _, give_new (Nat.le_refl _)⟩⟩
  have HB : Aside (w.heap.size ≤ w2.heap.size) := ⟨(G1.it.sn X2.it.2 (fun x => x)).g.size⟩
  rw [← hW3]
  obtain ⟨b, hb⟩ : ∃ b, Aside (b = w2.heap.size) := ⟨_, ⟨rfl⟩⟩
  rw [← hb.it] at P3 HB ⊢
  clear hW3 WK G0 NB X2 G1 hb
  go_wp2_with fail
  go_loopw [5] (fun i wr => ∃ (k : Nat) (own : Nat → Nat) (a : Option Addr) (l c : Nat) (rs : List (List Int)), i = .int .i64 k ∧ k ≤ M ∧ Aside (Pl6 A w p b (.slice a l c) rs (k * 1048588) own wr)) (fun i _ => M - (intOf i).toNat)
  case atStart => exact ⟨0, _, none, 0, 0, [], rfl, Nat.zero_le _, P3⟩
  case round =>
    obtain ⟨k, own, a, l, c, rs, rfl, hk, HP⟩ := hrel
    clear P3
    rcases Nat.eq_or_lt_of_le hk with rfl | hlt
    · go_wp2
      all_goals first
        | (exfalso; omega)
        | skip
      go_ret
      exact ⟨rfl, HP.it.g.g.bel⟩
    · obtain ⟨z, hz⟩ : ∃ z, zs[k]? = some z := ⟨_, List.getElem?_eq_getElem (by rw [← hM.it]; exact hlt)⟩
      obtain ⟨sb, so, cs, rfl, hok, hcl, hcell⟩ := HAT.it k z hz
      have hcs := hok.1
      subst hcs
      have HOK := Aside.mk hok
      obtain ⟨kind, ⟨v, t, f, s, ln⟩, sl, ns, n⟩ := z
      obtain ⟨da, dc, hsl⟩ := HOK.it.2.2.1.shape
      obtain ⟨dn, hdn⟩ : ∃ dn, Aside (dn = ns.length) := ⟨_, ⟨rfl⟩⟩
      simp only at hsl
      rw [← hdn.it] at hsl
      subst hsl
      have HD0 : Aside (Held6 b (.slice a l c) sb (so + k * 8) [.int .i64 kind, .int .u8 v, .int .u8 t, .int .u16 f, .int .u32 s, .int .u32 ln, .slice da dn dc, .int .i64 n] wr) := by
        refine ⟨by rw [HP.it.box.1.cell]; rfl, fun j hj => ?_, rfl⟩
        have h1 := hcell j hj
        rw [List.getElem?_eq_getElem (by rw [hcl]; exact hj)] at h1
        rw [HP.it.g.g.bel.cell (World.block_lt_of_cell? w _ h1), h1, ← List.getElem?_eq_getElem (by rw [hcl]; exact hj)]
        rfl
      have hsbl : Aside (sb < w.heap.size) := ⟨by
        have h1 := hcell 0 (by decide)
        exact World.block_lt_of_cell? w _ h1⟩
      have b0 : wr.cell? ⟨b, 0, none⟩ = some (.slice a l c) := by rw [HP.it.box.1.cell]; rfl
      have i2 : (k : Int) < M := by omega
      have i3 : (0 : Int) ≤ k := by omega
      have i4 : (k : Int) + 1 ≤ 9223372036854775807 := by omega
      clear hz hcell hok hk
      have HS : Aside (∀ w' : World, Aside (Held6 b (.slice a l c) sb (so + k * 8) [.int .i64 kind, .int .u8 v, .int .u8 t, .int .u16 f, .int .u32 s, .int .u32 ln, .slice da dn dc, .int .i64 n] w') → w'.cell? ⟨b, 0, none⟩ = some (.slice a l c) ∧ w'.cell? ⟨sb, so + k * 8, none⟩ = some (.int .i64 kind) ∧ w'.cell? ⟨sb, so + k * 8 + 1, none⟩ = some (.int .u8 v) ∧ w'.cell? ⟨sb, so + k * 8 + 2, none⟩ = some (.int .u8 t) ∧ w'.cell? ⟨sb, so + k * 8 + 3, none⟩ = some (.int .u16 f) ∧ w'.cell? ⟨sb, so + k * 8 + 4, none⟩ = some (.int .u32 s) ∧ w'.cell? ⟨sb, so + k * 8 + 5, none⟩ = some (.int .u32 ln) ∧ w'.cell? ⟨sb, so + k * 8 + 6, none⟩ = some (.slice da dn dc) ∧ w'.cell? ⟨sb, so + k * 8 + 7, none⟩ = some (.int .i64 n)) :=
        ⟨fun w' h => ⟨h.it.1, h.it.2.1 0 (by decide), h.it.2.1 1 (by decide), h.it.2.1 2 (by decide), h.it.2.1 3 (by decide), h.it.2.1 4 (by decide), h.it.2.1 5 (by decide), h.it.2.1 6 (by decide), h.it.2.1 7 (by decide)⟩⟩
      have HTT : Aside (k * 1048588 ≤ 4398044413932) := ⟨by have := HL.it; omega⟩
      have HD1 : Aside (Held6 b (.slice a l c) sb (so + k * 8) [.int .i64 kind, .int .u8 v, .int .u8 t, .int .u16 f, .int .u32 s, .int .u32 ln, .slice da dn dc, .int .i64 n] wr.drew) := ⟨HD0.it.quiet (Keeps.refl _ _).drew⟩
      have HDa : Aside (Held6 b (.slice a l c) sb (so + k * 8) [.int .i64 kind, .int .u8 v, .int .u8 t, .int .u16 f, .int .u32 s, .int .u32 ln, .slice da dn dc, .int .i64 n] (wr.alloc (.cells #[.slice none 0 0] 28)).drew) := ⟨HD0.it.quiet ((Keeps.refl _ _).alloc _).drew⟩
      have G1 : Aside (Pl6 A w p b (.slice a l c) rs (k * 1048588) own wr.drew) := ⟨HP.it.sn0 (Sn.same (Keeps.refl Nowhere wr).drew)⟩
      obtain ⟨ownB, hoB⟩ : ∃ ownB, Aside (ownB = give own wr.heap.size 0) := ⟨_, ⟨rfl⟩⟩
      have G1a : Aside (Pl6 A w p b (.slice a l c) rs (k * 1048588) ownB (wr.alloc (.cells #[.slice none 0 0] 28)).drew) := ⟨by rw [hoB.it]; exact HP.it.sn0 (Sn.quiet ((Keeps.refl Nowhere wr).alloc (.cells #[.slice none 0 0] 28)).drew 0)⟩
      have CB : Aside (CellsO ownB 0 (wr.alloc (.cells #[.slice none 0 0] 28)).drew wr.heap.size 28 [.slice none 0 0]) := ⟨by rw [hoB.it]; exact ⟨(Cells.new wr _ _).drew, give_new (Nat.le_refl _)⟩⟩
      have NB : Aside (b < wr.heap.size ∧ sb < wr.heap.size) := ⟨HP.it.box.1.lt, by have := hsbl.it; have := HP.it.g.g.size; omega⟩
      obtain ⟨rn, hrn⟩ : ∃ rn, Aside (rn = stepL rs ⟨kind, ⟨v, t, f, s, ln⟩, .slice da dn dc, ns, n⟩) := ⟨_, ⟨rfl⟩⟩
      have ST : Aside (∀ own1 W, Aside (Pl6 A w p b (.slice a l c) rs (k * 1048588) own1 W) → Aside (Held6 b (.slice a l c) sb (so + k * 8) [.int .i64 kind, .int .u8 v, .int .u8 t, .int .u16 f, .int .u32 s, .int .u32 ln, .slice da dn dc, .int .i64 n] W) → Calls Tryd.prog 9 #[ptr p, .agg #[.slice a l c], .agg #[.int .i64 kind, .int .u8 v, .int .u8 t, .int .u16 f, .int .u32 s, .int .u32 ln, .slice da dn dc, .int .i64 n]] W fun e w' => ∃ a' l' c' own', e = .returned (.tuple #[.agg #[.slice a' l' c'], .bool true]) ∧
          Aside ((BufO own' 1 2 w' p rn ((k + 1) * 1048588) ∧ RdL own' 3 w' (.slice a' l' c') rn ∧ OnG A w own' w' ∧ CellsO own' 0 w' b 28 [.slice a l c]) ∧ Sn OneTwo own1 W own' w') ∧ Aside (Held6 b (.slice a l c) sb (so + k * 8) [.int .i64 kind, .int .u8 v, .int .u8 t, .int .u16 f, .int .u32 s, .int .u32 ln, .slice da dn dc, .int .i64 n] w')) := by
        refine ⟨fun own1 W g hd => ?_⟩
        refine (Pl6.step g.it _ _ HOK.it HTT.it).mono ?_
        rintro e w' ⟨a', l', c', own', rfl, X⟩
        rw [← hrn.it, ← Nat.succ_mul] at X
        refine ⟨a', l', c', own', rfl, X, ⟨hd.it.keep X.it.2.keeps ?_ ?_⟩⟩
        · rw [g.it.box.2]; exact ot0
        · rw [g.it.g.g.zero sb hsbl.it]; exact ot0
      clear HOK
      go_upto_region 8 with fail
      go_region_held_law (fun w' => w'.cell? ⟨b, 0, none⟩ = some (.slice a l c) ∧ w'.cell? ⟨sb, so + k * 8, none⟩ = some (.int .i64 kind) ∧ w'.cell? ⟨sb, so + k * 8 + 1, none⟩ = some (.int .u8 v) ∧ w'.cell? ⟨sb, so + k * 8 + 2, none⟩ = some (.int .u8 t) ∧ w'.cell? ⟨sb, so + k * 8 + 3, none⟩ = some (.int .u16 f) ∧ w'.cell? ⟨sb, so + k * 8 + 4, none⟩ = some (.int .u32 s) ∧ w'.cell? ⟨sb, so + k * 8 + 5, none⟩ = some (.int .u32 ln) ∧ w'.cell? ⟨sb, so + k * 8 + 6, none⟩ = some (.slice da dn dc) ∧ w'.cell? ⟨sb, so + k * 8 + 7, none⟩ = some (.int .i64 n)) (exact HS.it _ (by with_reducible assumption)) (first
        | (go_at_call 9; refine (ST.it _ _ (by with_reducible assumption) (by with_reducible assumption)).mono ?_; rintro e w3 ⟨a3, l3, c3, own3, rfl, X3, HD3⟩; have HE1 : Aside (Held6 b (.slice a l c) sb (so + k * 8) [.int .i64 kind, .int .u8 v, .int .u8 t, .int .u16 f, .int .u32 s, .int .u32 ln, .slice da dn dc, .int .i64 n] (w3.alloc (.cells #[.slice none 0 0] 28))) := ⟨HD3.it.quiet ((Keeps.refl _ _).alloc _)⟩; have HE2 : Aside (Held6 b (.slice a l c) sb (so + k * 8) [.int .i64 kind, .int .u8 v, .int .u8 t, .int .u16 f, .int .u32 s, .int .u32 ln, .slice da dn dc, .int .i64 n] (w3.alloc (.cells #[.slice a3 l3 c3] 28))) := ⟨HD3.it.quiet ((Keeps.refl _ _).alloc _)⟩; have HE3 : Aside (Held6 b (.slice a l c) sb (so + k * 8) [.int .i64 kind, .int .u8 v, .int .u8 t, .int .u16 f, .int .u32 s, .int .u32 ln, .slice da dn dc, .int .i64 n] (w3.setCell ⟨wr.heap.size, 0, none⟩ (.slice a3 l3 c3))) := ⟨HD3.it.keep (S := fun q => q = wr.heap.size) ((Keeps.refl _ _).setCell _ _ (fun _ => rfl)) (by have := NB.it; omega) (by have := NB.it; omega)⟩; first | (have C3 := CB.it.sn X3.it.2 ot0; have q1 : w3.cell? ⟨wr.heap.size, 0, none⟩ = some (.slice none 0 0) := (by rw [C3.1.cell]; rfl); have q2 := C3.1.frozen 0; have C3' := Aside.mk C3; clear C3) | skip))
      · obtain ⟨own4, ho4⟩ : ∃ own4, Aside (own4 = give own3 w3.heap.size 0) := ⟨_, ⟨rfl⟩⟩
        obtain ⟨W4, hW4⟩ : ∃ W4, W4 = w3.alloc (.cells #[.slice a3 l3 c3] 28) := ⟨_, rfl⟩
        have R4 : Aside ((BufO own4 1 2 W4 p rn ((k + 1) * 1048588) ∧ RdL own4 3 W4 (.slice a3 l3 c3) rn ∧ OnG A w own4 W4 ∧ CellsO own4 0 W4 b 28 [.slice a l c]) ∧ CellsO own4 0 W4 w3.heap.size 28 [.slice a3 l3 c3]) := by
          have s4 : Sn (fun _ => False) own3 w3 own4 W4 := by rw [ho4.it, hW4]; exact Sn.quiet ((Keeps.refl _ _).alloc _) 0
          obtain ⟨x1, x2, x3, x4⟩ := X3.it.1
          exact ⟨⟨x1.sn s4 (fun x => x) (fun x => x), x2.sn s4 (fun x => x), x3.sn s4 (fun x => x), x4.sn s4 (fun x => x)⟩, ⟨by rw [hW4]; exact Cells.new w3 _ _, by rw [ho4.it]; exact give_new (Nat.le_refl _)⟩⟩
        rw [← hW4]
        obtain ⟨tb, htb⟩ : ∃ tb, Aside (tb = w3.heap.size) := ⟨_, ⟨rfl⟩⟩
        rw [← htb.it] at R4 ⊢
        clear hW4 HE1 HE2 HE3 HD3 X3 HDa HD1 HD0 G1 G1a ST HS CB HP b0
        obtain ⟨⟨hb4, hr4, hg4, hx4⟩, ht4⟩ := R4.it
        have t0 : W4.cell? ⟨tb, 0, none⟩ = some (.slice a3 l3 c3) := by rw [ht4.1.cell]; rfl
        have c0 : W4.cell? ⟨b, 0, none⟩ = some (.slice a l c) := by rw [hx4.1.cell]; rfl
        have f0 := hx4.1.frozen 0
        obtain ⟨W5, hW5⟩ : ∃ W5, W5 = W4.setCell ⟨b, 0, none⟩ (.slice a3 l3 c3) := ⟨_, rfl⟩
        have P5 : Aside (Pl6 A w p b (.slice a3 l3 c3) rn ((k + 1) * 1048588) own4 W5) := ⟨by rw [hW5]; exact Pl6.put hb4 hr4 hg4 hx4 HB.it⟩
        have ht5 := succ_room HTT.it
        have LEN := Aside.mk (step_len6 a3 l3 c3 P5.it.buf P5.it.ref lenOp ⟨none, 0, 0, lenOp_sl⟩ lenOp_kind ht5)
        have c5 : W5.cell? ⟨b, 0, none⟩ = some (.slice a3 l3 c3) := by rw [P5.it.box.1.cell]; rfl
        clear hb4 hr4 hg4 hx4 ht4 R4
        go_upto_region 12 with fail
        rw [← hW5]
        clear hW5 t0 c0 f0
        go_wp2_with (go_at_call 9; refine LEN.it.mono ?_; rintro e w6 ⟨a6, l6, c6, own6, rfl, X6⟩)
        all_goals first
          | (exfalso; omega)
          | skip
        go_roundw
        case rel =>
          have s7 : Sn (fun _ => False) own6 w6 (give own6 w6.heap.size 0) (w6.alloc (.cells #[.slice a6 l6 c6] 28)) := Sn.quiet ((Keeps.refl _ _).alloc _) 0
          exact ⟨k + 1, _, a3, l3, c3, rn, by go_num, by omega, ⟨Pl6.sn0 ⟨X6.it.1, P5.it.ref.sn X6.it.2.2 ot3, P5.it.g.sn X6.it.2.2 ot0, P5.it.box.sn X6.it.2.2 ot0⟩ s7⟩⟩
        case measure => simp [intOf]; omega
      · obtain ⟨own4, ho4⟩ : ∃ own4, Aside (own4 = own3) := ⟨_, ⟨rfl⟩⟩
        obtain ⟨W4, hW4⟩ : ∃ W4, W4 = w3.setCell ⟨wr.heap.size, 0, none⟩ (.slice a3 l3 c3) := ⟨_, rfl⟩
        have R4 : Aside ((BufO own4 1 2 W4 p rn ((k + 1) * 1048588) ∧ RdL own4 3 W4 (.slice a3 l3 c3) rn ∧ OnG A w own4 W4 ∧ CellsO own4 0 W4 b 28 [.slice a l c]) ∧ CellsO own4 0 W4 wr.heap.size 28 [.slice a3 l3 c3]) := by
          rw [ho4.it, hW4]
          obtain ⟨x1, x2, x3, x4⟩ := X3.it.1
          have y := Pl6.put x1 x2 x3 C3'.it HP.it.g.g.size
          exact ⟨⟨y.buf, y.ref, y.g, ⟨x4.1.setOther _ _ (by have := NB.it; show b ≠ wr.heap.size; omega), x4.2⟩⟩, y.box⟩
        rw [← hW4]
        obtain ⟨tb, htb⟩ : ∃ tb, Aside (tb = wr.heap.size) := ⟨_, ⟨rfl⟩⟩
        rw [← htb.it] at R4 ⊢
        clear hW4 HE1 HE2 HE3 HD3 X3 HDa HD1 HD0 G1 G1a ST HS CB HP b0 q1 q2 C3'
        obtain ⟨⟨hb4, hr4, hg4, hx4⟩, ht4⟩ := R4.it
        have t0 : W4.cell? ⟨tb, 0, none⟩ = some (.slice a3 l3 c3) := by rw [ht4.1.cell]; rfl
        have c0 : W4.cell? ⟨b, 0, none⟩ = some (.slice a l c) := by rw [hx4.1.cell]; rfl
        have f0 := hx4.1.frozen 0
        obtain ⟨W5, hW5⟩ : ∃ W5, W5 = W4.setCell ⟨b, 0, none⟩ (.slice a3 l3 c3) := ⟨_, rfl⟩
        have P5 : Aside (Pl6 A w p b (.slice a3 l3 c3) rn ((k + 1) * 1048588) own4 W5) := ⟨by rw [hW5]; exact Pl6.put hb4 hr4 hg4 hx4 HB.it⟩
        have ht5 := succ_room HTT.it
        have LEN := Aside.mk (step_len6 a3 l3 c3 P5.it.buf P5.it.ref lenOp ⟨none, 0, 0, lenOp_sl⟩ lenOp_kind ht5)
        have c5 : W5.cell? ⟨b, 0, none⟩ = some (.slice a3 l3 c3) := by rw [P5.it.box.1.cell]; rfl
        clear hb4 hr4 hg4 hx4 ht4 R4
        go_upto_region 12 with fail
        rw [← hW5]
        clear hW5 t0 c0 f0
        go_wp2_with (go_at_call 9; refine LEN.it.mono ?_; rintro e w6 ⟨a6, l6, c6, own6, rfl, X6⟩)
        all_goals first
          | (exfalso; omega)
          | skip
        go_roundw
        case rel =>
          have s7 : Sn (fun _ => False) own6 w6 (give own6 w6.heap.size 0) (w6.alloc (.cells #[.slice a6 l6 c6] 28)) := Sn.quiet ((Keeps.refl _ _).alloc _) 0
          exact ⟨k + 1, _, a3, l3, c3, rn, by go_num, by omega, ⟨Pl6.sn0 ⟨X6.it.1, P5.it.ref.sn X6.it.2.2 ot3, P5.it.g.sn X6.it.2.2 ot0, P5.it.box.sn X6.it.2.2 ot0⟩ s7⟩⟩
        case measure => simp [intOf]; omega
end
end Go.Proofs.YtlooiikddachdaaDoor
