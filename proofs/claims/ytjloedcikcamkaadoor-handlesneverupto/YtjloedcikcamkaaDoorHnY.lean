/-
  culvertlaw22.HandlesNever (written by gen_HnY.py)
-/
import Derived.Test.YtjloedcikcamkaaDoorHnV
import Derived.Test.YtjloedcikcamkaaDoorHnOn
import Derived.Test.YtjloedcikcamkaaDoorRowsS
import Derived.Deep.CutBlock
namespace Go.Proofs.YtjloedcikcamkaaDoor
open Go.RowKit

variable {A : Nat → Addr} {w w' W w0 : World} {own own' own2 : Nat → Nat} {p g g' : Nat} {L L' : Hl} {x : Pl} {z : Int} {bs : List Bool} {ps : List Pl} {vl vp : Value} {X : Bxs} {I : Nat → Prop}
theorem owns_len {base : Nat} {e : TypeId} {k n a b : Nat} {q : Option Addr} {xs : List Value} (h : w.ownsRow base e k (.slice q a b) n xs) : a = n := by
  rcases h.2 with ⟨h, h0⟩ | ⟨g, c, cur, h, _⟩
  · injection h with _ h _; omega
  · injection h
/-- what the law's own book says -/
structure NV (g : Nat) (L : Hl) (bs : List Bool) (ps : List Pl) : Prop where
  lb : bs.length = g
  lp : ps.length = g
  at_ : ∀ (k : Nat) (b : Bool) (q : Pl), bs[k]? = some b → ps[k]? = some q → hfind L ((k : Int) + 1) = if b = true then some q else none
  n : L.length = bs.count true
theorem NV.nil : NV 0 [] [] [] := ⟨rfl, rfl, fun k b q h => by simp at h, rfl⟩
theorem NV.bind (h : NV g L bs ps) (ho : HOk g L) (x : Pl) : NV (g + 1) (L ++ [((g : Int) + 1, x)]) (bs ++ [true]) (ps ++ [x]) := by
  refine ⟨by simp [h.lb], by simp [h.lp], fun k b q hb hq => ?_, by simp [h.n]⟩
  rw [ho.find_bind]
  by_cases e : k = g
  · subst e
    rw [if_pos rfl]
    rw [List.getElem?_append_right (by rw [h.lb]; exact Nat.le_refl _), h.lb, Nat.sub_self] at hb
    rw [List.getElem?_append_right (by rw [h.lp]; exact Nat.le_refl _), h.lp, Nat.sub_self] at hq
    simp only [List.getElem?_cons_zero, Option.some.injEq] at hb hq
    rw [← hb, ← hq, if_pos rfl]
  · have hk : k < g := by
      have := (List.getElem?_eq_some_iff.1 hb).1
      simp only [List.length_append, List.length_cons, List.length_nil, h.lb] at this
      omega
    rw [if_neg (by omega)]
    rw [List.getElem?_append_left (by rw [h.lb]; exact hk)] at hb
    rw [List.getElem?_append_left (by rw [h.lp]; exact hk)] at hq
    exact h.at_ k b q hb hq
theorem NV.drop (h : NV g L bs ps) (ho : HOk g L) {m : Nat} {q : Pl} (hb : bs[m]? = some true) (hq : ps[m]? = some q) : NV g (hdel L ((m : Int) + 1)) (bs.set m false) ps := by
  have hf : hfind L ((m : Int) + 1) = some q := by rw [h.at_ m true q hb hq, if_pos rfl]
  have hml : m < bs.length := (List.getElem?_eq_some_iff.1 hb).1
  refine ⟨by rw [List.length_set]; exact h.lb, h.lp, fun k b q' hb' hq' => ?_, ?_⟩
  · rw [hfind_del]
    by_cases e : k = m
    · subst e
      rw [List.getElem?_set_self hml] at hb'
      simp only [Option.some.injEq] at hb'
      rw [← hb']
      simp
    · rw [if_neg (by omega)]
      rw [List.getElem?_set_ne (fun e' => e e'.symm)] at hb'
      exact h.at_ k b q' hb' hq'
  · have h1 := ho.len_del hf
    have h2 : (bs.set m false).count true + 1 = bs.count true := by
      have hbm : bs[m] = true := by rw [List.getElem?_eq_getElem hml] at hb; simpa using hb
      rw [List.count_set hml, hbm]
      have : 0 < bs.count true := List.count_pos_iff.2 (hbm ▸ List.getElem_mem hml)
      simp
      omega
    have := h.n
    omega
theorem count_take {bs : List Bool} {k : Nat} {b : Bool} (h : bs[k]? = some b) : (bs.take (k + 1)).count true = (bs.take k).count true + (if b = true then 1 else 0) := by
  rw [List.take_add_one, h]
  cases b <;> simp
abbrev plc (q : Pl) : List Value := [.int .i64 q.c, .int .i64 q.l, .int .u32 (q.d : Nat)]
def flatP (ps : List Pl) : List Value := ps.flatMap plc
theorem flatP_snoc (ps : List Pl) (q : Pl) : flatP (ps ++ [q]) = flatP ps ++ plc q := by simp [flatP, List.flatMap_append]
theorem flatP_at (ps : List Pl) : ∀ (j : Nat) (x : Pl), ps[j]? = some x → ∀ (k : Nat) (u : Value), (plc x)[k]? = some u → (flatP ps)[j * 3 + k]? = some u := by
  induction ps with
  | nil => intro j x h; simp at h
  | cons y ps ih =>
    intro j x h k u hu
    have hk : k < 3 := by have := (List.getElem?_eq_some_iff.1 hu).1; simpa [plc] using this
    have e : flatP (y :: ps) = plc y ++ flatP ps := rfl
    rw [e]
    cases j with
    | zero =>
      simp only [List.getElem?_cons_zero, Option.some.injEq] at h
      subst h
      rw [List.getElem?_append_left (by simp [plc]; omega)]
      simpa using hu
    | succ j =>
      simp only [List.getElem?_cons_succ] at h
      rw [List.getElem?_append_right (by simp [plc]; omega)]
      have : (j + 1) * 3 + k - (plc y).length = j * 3 + k := by simp [plc]; omega
      rw [this]
      exact ih j x h k u hu
theorem binfo : (Tryd.prog.info? 4).map (fun i => (i.zero, i.size, i.bytes)) = some (some (.bool false), 1, 1) := by kernel_rfl
theorem plinfo : (Tryd.prog.info? 33).map (fun i => (i.zero, i.size, i.bytes)) = some (some (.agg #[.int .i64 0, .int .i64 0, .int .u32 0]), 3, 24) := by kernel_rfl
/-- the law's memory: the Handles 1, its two lists 5 and 6, boxes 8 -/
structure Nv (A : Nat → Addr) (w0 : World) (own : Nat → Nat) (W : World) (p g : Nat) (L : Hl) (vl : Value) (bs : List Bool) (vp : Value) (ps : List Pl) (X : Bxs) : Prop where
  og : OnG A w0 own W
  h : HnO own 1 W p g L
  lv : OwR own 5 W 4 1 vl bs.length (bs.map Value.bool)
  pl : OwR own 6 W 33 3 vp ps.length (flatP ps)
  x : ∀ e ∈ X, CellsO own 8 W e.1 e.2.1 e.2.2
theorem Nv.bel (h : Nv A w0 own W p g L vl bs vp ps X) : Keeps Nowhere w0 W := Keeps.ofBelow h.og.g.bel
theorem Nv.quiet (h : Nv A w0 own W p g L vl bs vp ps X) (hk : Keeps Nowhere W w') : Nv A w0 own w' p g L vl bs vp ps X := by
  have s : Sn (fun _ => False) own W own w' := Sn.same hk
  exact ⟨h.og.quiet hk, h.h.quiet hk, h.lv.sn s (fun x => x), h.pl.sn s (fun x => x), fun e he => (h.x e he).sn s (fun x => x)⟩
theorem Nv.move (h : Nv A w0 own W p g L vl bs vp ps X) (h1 : HnO own2 1 w' p g' L') (s : Sn (fun k => k = 1) own W own2 w') : Nv A w0 own2 w' p g' L' vl bs vp ps X :=
  ⟨h.og.sn s (by decide), h1, h.lv.sn s (by decide), h.pl.sn s (by decide), fun e he => (h.x e he).sn s (by decide)⟩
theorem Nv.free (h : Nv A w0 own W p g L vl bs vp ps X) : Nv A w0 own W p g L vl bs vp ps [] := { h with x := fun e he => (by cases he) }
theorem Nv.box (h : Nv A w0 own W p g L vl bs vp ps X) (t : TypeId) (cs : List Value) : Nv A w0 (give own W.heap.size 8) (W.alloc (.cells cs.toArray t)) p g L vl bs vp ps ((W.heap.size, t, cs) :: X) := by
  have hk : Keeps Nowhere W (W.alloc (.cells cs.toArray t)) := (Keeps.refl _ _).alloc _
  have s : Sn (fun _ => False) own W (give own W.heap.size 8) (W.alloc (.cells cs.toArray t)) := Sn.quiet hk 8
  refine ⟨h.og.sn s (fun x => x), h.h.sn s (fun x => x), h.lv.sn s (fun x => x), h.pl.sn s (fun x => x), fun e he => ?_⟩
  rcases List.mem_cons.1 he with rfl | he
  · exact ⟨Cells.new W t cs, give_new (Nat.le_refl _)⟩
  · exact (h.x e he).sn s (fun x => x)
theorem Nv.opc {b : Nat} {kd c l hh : Int} {d : Nat} (h : Nv A w0 own W p g L vl bs vp ps X) (he : (b, 35, [Value.int .i64 kd, .int .i64 c, .int .i64 l, .int .u32 (d : Nat), .int .i64 hh]) ∈ X) : W.cell? ⟨b, 0, none⟩ = some (.int .i64 kd) ∧ W.cell? ⟨b, 1, none⟩ = some (.int .i64 c) ∧ W.cell? ⟨b, 1 + 1, none⟩ = some (.int .i64 l) ∧ W.cell? ⟨b, 1 + 2, none⟩ = some (.int .u32 (d : Nat)) ∧ W.cell? ⟨b, 4, none⟩ = some (.int .i64 hh) := by
  have e := (h.x _ he).1
  exact ⟨by rw [e.cell]; rfl, by rw [e.cell]; rfl, by rw [e.cell]; rfl, by rw [e.cell]; rfl, by rw [e.cell]; rfl⟩
theorem Nv.plb {b : Nat} {c l : Int} {d : Nat} (h : Nv A w0 own W p g L vl bs vp ps X) (he : (b, 33, [Value.int .i64 c, .int .i64 l, .int .u32 (d : Nat)]) ∈ X) : W.cell? ⟨b, 0, none⟩ = some (.int .i64 c) ∧ W.cell? ⟨b, 1, none⟩ = some (.int .i64 l) ∧ W.cell? ⟨b, 2, none⟩ = some (.int .u32 (d : Nat)) := by
  have e := (h.x _ he).1
  exact ⟨by rw [e.cell]; rfl, by rw [e.cell]; rfl, by rw [e.cell]; rfl⟩
/-- a flag as it is read, and written -/
theorem Nv.flag (h : Nv A w0 own W p g L vl bs vp ps X) {m : Nat} {b : Bool} (hb : bs[m]? = some b) : ∃ q c, vl = .slice (some ⟨q, 0, none⟩) bs.length c ∧ W.cell? ⟨q, m, none⟩ = some (.bool b) ∧ W.frozen? ⟨q, m, none⟩ = false ∧ Aside (Nv A w0 own (W.setCell ⟨q, m, none⟩ (.bool false)) p g L vl (bs.set m false) vp ps X) := by
  have hm : m < bs.length := (List.getElem?_eq_some_iff.1 hb).1
  obtain ⟨ho, hbk⟩ := h.lv
  rcases id ho.2 with ⟨_, x⟩ | ⟨q, c, cur, hv, _⟩
  · omega
  · subst hv
    have hc := ho.cells rfl m (.bool b) (by rw [List.getElem?_map, hb]; rfl)
    rw [add_none, Nat.zero_add] at hc
    have hq := hbk q rfl
    have K : Keeps (fun k => own k = 5) W (W.setCell ⟨q, m, none⟩ (.bool false)) := (Keeps.refl _ _).setCell _ _ (fun _ => hq.1)
    have s : Sn (fun k => k = 5) own W own (W.setCell ⟨q, m, none⟩ (.bool false)) := ⟨fun _ _ => rfl, K⟩
    have o3 := owns_setCell ho m (by omega) (.bool false)
    have e3 : (bs.map Value.bool).set m (.bool false) = (bs.set m false).map Value.bool := by rw [List.map_set]
    rw [e3] at o3
    refine ⟨q, c, rfl, hc, owns_frozen ho m, ⟨⟨h.og.sn s (by decide), h.h.sn s (by decide), ⟨by rw [List.length_set]; exact o3, fun k hk => ⟨(hbk k hk).1, Nat.lt_of_lt_of_le (hbk k hk).2 K.size⟩⟩, h.pl.sn s (by decide), fun e he => (h.x e he).sn s (by decide)⟩⟩⟩
theorem Nv.place (h : Nv A w0 own W p g L vl bs vp ps X) {m : Nat} {q : Pl} (hb : ps[m]? = some q) : ∃ r c, vp = .slice (some ⟨r, 0, none⟩) ps.length c ∧ W.cell? ⟨r, m * 3, none⟩ = some (.int .i64 q.c) ∧ W.cell? ⟨r, m * 3 + 1, none⟩ = some (.int .i64 q.l) ∧ W.cell? ⟨r, m * 3 + 2, none⟩ = some (.int .u32 (q.d : Nat)) := by
  have hm : m < ps.length := (List.getElem?_eq_some_iff.1 hb).1
  obtain ⟨ho, hbk⟩ := h.pl
  rcases id ho.2 with ⟨_, x⟩ | ⟨r, c, cur, hv, _⟩
  · omega
  · subst hv
    refine ⟨r, c, rfl, ?_, ?_, ?_⟩
    · have hc := ho.cells rfl (m * 3) _ (flatP_at ps m q hb 0 _ rfl)
      rwa [add_none, Nat.zero_add] at hc
    · have hc := ho.cells rfl (m * 3 + 1) _ (flatP_at ps m q hb 1 _ rfl)
      rwa [add_none, Nat.zero_add] at hc
    · have hc := ho.cells rfl (m * 3 + 2) _ (flatP_at ps m q hb 2 _ rfl)
      rwa [add_none, Nat.zero_add] at hc
theorem Nv.appL (h : Nv A w0 own W p g L vl bs vp ps X) {vl' : Value} {W1 : World} (hk : Keeps Nowhere W W1) (ho : w'.ownsRow 0 4 1 vl' (bs.length + 1) (bs.map Value.bool ++ [.bool true])) (sp : Split vl vl' 1 W1 w') : ∃ own2, Nv A w0 own2 w' p g L vl' (bs ++ [true]) vp ps X := by
  obtain ⟨o2, s⟩ := h.lv.app hk ho sp
  refine ⟨_, h.og.sn s (by decide), h.h.sn s (by decide), ?_, h.pl.sn s (by decide), fun e he => (h.x e he).sn s (by decide)⟩
  rw [List.length_append, List.map_append]
  exact o2
theorem Nv.appP (h : Nv A w0 own W p g L vl bs vp ps X) {vp' : Value} {q : Pl} {W1 : World} (hk : Keeps Nowhere W W1) (ho : w'.ownsRow 0 33 3 vp' (ps.length + 1) (flatP ps ++ plc q)) (sp : Split vp vp' 1 W1 w') : ∃ own2, Nv A w0 own2 w' p g L vl bs vp' (ps ++ [q]) X := by
  obtain ⟨o2, s⟩ := h.pl.app hk ho sp
  refine ⟨_, h.og.sn s (by decide), h.h.sn s (by decide), h.lv.sn s (by decide), ?_, fun e he => (h.x e he).sn s (by decide)⟩
  rw [List.length_append, flatP_snoc]
  exact o2
theorem nv_drop (h : Aside (Nv A w0 own W p g L vl bs vp ps X)) (hz : Zw z) : Calls Tryd.prog 12 #[ptr p, .int .i64 z] W fun e w' => e = .returned (.bool (hfind L z).isSome) ∧ Aside (Nv A w0 own w' p g (hdel L z) vl bs vp ps X) := by
  refine (drop_at h.it.h hz).mono ?_
  rintro e w' ⟨rfl, Y⟩
  exact ⟨rfl, ⟨h.it.move Y.it.1 Y.it.2⟩⟩
theorem nv_bind (h : Aside (Nv A w0 own W p g L vl bs vp ps X)) (hx : x.Wide) : Calls Tryd.prog 14 #[ptr p, .agg #[.int .i64 x.c, .int .i64 x.l, .int .u32 (x.d : Nat)]] W fun e w' => ∃ ev, e = .returned (.tuple #[.int .i64 (bindN g L x), ev]) ∧ Hid (Coded A ev (bindC g L x)) ∧ Aside (Nv A w0 own w' p (bindG g L x) (bindL g L x) vl bs vp ps X) := by
  refine (bind_at h.it.h hx h.it.og.sents).mono ?_
  rintro e w' ⟨ev, rfl, C, Y⟩
  exact ⟨ev, rfl, C, ⟨h.it.move Y.it.1 Y.it.2⟩⟩
set_option maxRecDepth 20000 in
set_option maxHeartbeats 8000000 in
theorem handlesNever_walkU {A : Nat → Addr} (s : Value) (zs : List OpV22) (w : World) (hs : Sents 113 codeVars A w) (hz : Ops22ArgU w s zs) :
    Calls Tryd.prog 4 #[s] w fun e w' => e = .returned (.bool true) ∧ Below w.heap.size w w' := by
  obtain ⟨hz, hzN⟩ := hz
  have HZ := Aside.mk hz
  obtain ⟨a, c, rfl, hzc, hcm, _⟩ := hz
  obtain ⟨N, hN⟩ : ∃ N, zs.length = N := ⟨_, rfl⟩
  have HN := Aside.mk hN
  rw [hN] at hzc hzN ⊢
  have WK := Aside.mk (wakes22 hs)
  have HS := Aside.mk hs
  have hNm : (N : Int) ≤ 1048576 := by omega
  clear hs hN
  go_enter Tryd.func4, Tryd.ntmps4
  go_upto_region 3 with (go_at_call 8; refine WK.it.mono ?_; rintro e w1 ⟨rfl, K1⟩)
  clear WK
  have S1 := Aside.mk (HS.it.later K1.it.bel)
  have NW := Aside.mk (new_at w1 (fun _ => 0) 1)
  go_upto_region 4 with (go_at_call 9; refine NW.it.mono ?_; rintro e w2 ⟨p, own2, rfl, X2⟩)
  have P2 : Aside (Nv A w1 own2 w2 p 0 [] (.slice none 0 0) [] (.slice none 0 0) [] []) := ⟨(OnG.start S1.it).sn X2.it.2.2 (fun x => x), X2.it.1, OwR.zero, OwR.zero, fun e he => (by cases he)⟩
  clear X2 NW S1
  go_upto_region 8 with fail
  go_loopw [4, 5, 6, 7] (fun vg vl vp v wr => ∃ (j g : Nat) (L : Hl) (bs : List Bool) (ps : List Pl) (own : Nat → Nat), vg = .int .i64 g ∧ v = .int .i64 j ∧ j ≤ N ∧ g ≤ j ∧ Aside (NV g L bs ps) ∧ Aside (Nv A w1 own wr p g L vl bs vp ps [])) (fun _ _ _ v _ => N - natOf22 v)
  case atStart => exact ⟨0, 0, [], [], [], own2, rfl, rfl, Nat.zero_le _, Nat.le_refl _, ⟨NV.nil⟩, P2⟩
  case round =>
    clear P2
    obtain ⟨j, g, L, bs, ps, own, rfl, rfl, hj, hgj, M, P⟩ := hrel
    obtain ⟨la, ll, lc, hvl⟩ := owns_shapeK P.it.lv.1
    subst hvl
    obtain ⟨pa, pl, pc, hvp⟩ := owns_shapeK P.it.pl.1
    subst hvp
    have ell : g = ll := by rw [← M.it.lb]; exact (owns_len P.it.lv.1).symm
    subst ell
    have epl : g = pl := by rw [← M.it.lp]; exact (owns_len P.it.pl.1).symm
    subst epl
    rcases Nat.eq_or_lt_of_le hj with rfl | hlt
    · have hgN : (g : Int) ≤ 1048576 := by omega
      have HO := Aside.mk P.it.h.ok
      go_upto_region 31 with fail
      go_loopw [18, 19] (fun vn v wr => ∃ (k : Nat) (own : Nat → Nat), v = .int .i64 k ∧ k ≤ g ∧ vn = .int .i64 ((bs.take k).count true : Nat) ∧ Aside (Nv A w1 own wr p g L (.slice la g lc) bs (.slice pa g pc) ps [])) (fun _ v _ => g - natOf22 v)
      case atStart => exact ⟨0, own, rfl, Nat.zero_le _, rfl, P⟩
      case round =>
        clear P
        obtain ⟨k, own, rfl, hk, rfl, P⟩ := hrel
        have hcl : (bs.take k).count true ≤ g := Nat.le_trans List.count_le_length (by rw [List.length_take, M.it.lb]; omega)
        rcases Nat.eq_or_lt_of_le hk with rfl | hkl
        · have hct : (bs.take k).count true = L.length := by rw [M.it.n, List.take_of_length_le (by rw [M.it.lb]; exact Nat.le_refl _)]
          rw [hct]
          obtain ⟨nl, hnl⟩ : ∃ nl, L.length = nl := ⟨_, rfl⟩
          have HNL := Aside.mk hnl
          rw [hnl]
          have F0 := Aside.mk (find_at (z := 0) P.it.h ⟨by decide, by decide⟩)
          rw [HO.it.low (by decide)] at F0
          have F0' : Aside (Calls Tryd.prog 16 #[ptr p, .int .i64 0] wr fun e w' => e = .returned (.tuple #[.agg #[.int .i64 0, .int .i64 0, .int .u32 0], .bool false]) ∧ Aside (Keeps Nowhere wr w')) := F0
          clear F0 hct hnl
          go_upto_region 42 with (go_at_call 16; refine F0'.it.mono ?_; rintro e w4 ⟨rfl, K4⟩)
          have P4 := Aside.mk (P.it.quiet (K4.it.alloc (.cells #[.int .i64 0, .int .i64 0, .int .u32 0] 33)))
          generalize w4.alloc (.cells #[.int .i64 0, .int .i64 0, .int .u32 0] 33) = w5 at P4 ⊢
          generalize w4.heap.size = b4
          have F1 := Aside.mk (find_at (z := (k : Int) + 1) P4.it.h ⟨by omega, by omega⟩)
          rw [HO.it.last (by omega)] at F1
          have F1' : Aside (Calls Tryd.prog 16 #[ptr p, .int .i64 ((k : Int) + 1)] w5 fun e w' => e = .returned (.tuple #[.agg #[.int .i64 0, .int .i64 0, .int .u32 0], .bool false]) ∧ Aside (Keeps Nowhere w5 w')) := F1
          clear F1 F0'
          go_upto_region 43 with (go_at_call 16; refine F1'.it.mono ?_; rintro e w6 ⟨rfl, K6⟩)
          have P6 := Aside.mk (P4.it.quiet (K6.it.alloc (.cells #[.int .i64 0, .int .i64 0, .int .u32 0] 33)))
          generalize w6.alloc (.cells #[.int .i64 0, .int .i64 0, .int .u32 0] 33) = w7 at P6 ⊢
          generalize w6.heap.size = b6
          have LN := Aside.mk (len_at P6.it.h)
          rw [HNL.it] at LN
          have enn : ((nl : Int) == nl) = true := by simp
          go_wp2_with (go_at_call 17; refine LN.it.mono ?_; rintro e w8 ⟨rfl, K8⟩)
          go_ret
          exact ⟨rfl, ((K1.it.trans P6.it.bel).trans K8.it).bel⟩
        · obtain ⟨bb, hbb⟩ : ∃ bb, bs[k]? = some bb := ⟨_, List.getElem?_eq_getElem (by rw [M.it.lb]; exact hkl)⟩
          obtain ⟨qq, hqq⟩ : ∃ qq, ps[k]? = some qq := ⟨_, List.getElem?_eq_getElem (by rw [M.it.lp]; exact hkl)⟩
          have hf := M.it.at_ k bb qq hbb hqq
          have CT := Aside.mk (count_take hbb)
          have FN := Aside.mk (find_at (z := (k : Int) + 1) P.it.h ⟨by omega, by omega⟩)
          rw [hf] at FN
          have HBB := Aside.mk hbb
          have HQQ := Aside.mk hqq
          have HF := Aside.mk hf
          clear hbb hqq hf
          have kg : (k : Int) < g := by omega
          cases bb with
          | false =>
            have FN' : Aside (Calls Tryd.prog 16 #[ptr p, .int .i64 ((k : Int) + 1)] wr fun e w' => e = .returned (.tuple #[.agg #[.int .i64 0, .int .i64 0, .int .u32 0], .bool false]) ∧ Aside (Keeps Nowhere wr w')) := FN
            clear FN
            go_upto_region 34 with (go_at_call 16; refine FN'.it.mono ?_; rintro e w4 ⟨rfl, K4⟩)
            have P4 := Aside.mk ((P.it.quiet K4.it).box 33 [.int .i64 0, .int .i64 0, .int .u32 ((0 : Nat) : Int)])
            have e3 : w4.alloc (.cells [.int .i64 0, .int .i64 0, .int .u32 ((0 : Nat) : Int)].toArray 33) = w4.alloc (.cells #[.int .i64 0, .int .i64 0, .int .u32 0] 33) := rfl
            rw [e3] at P4
            clear FN' P e3
            generalize w4.alloc (.cells #[.int .i64 0, .int .i64 0, .int .u32 0] 33) = w5 at P4 ⊢
            generalize w4.heap.size = b4 at P4 ⊢
            obtain ⟨r0, r1, r2⟩ := P4.it.plb (.head _)
            have r2 : w5.cell? ⟨b4, 2, none⟩ = some (.int .u32 0) := r2
            obtain ⟨lq, lcc, hlq, f0, _, _⟩ := P4.it.flag HBB.it
            injection hlq with e1 e2 e3
            subst e1 e3
            clear e2
            have pe : ∀ W : World, (binOp .neq 33 (.agg #[.int .i64 0, .int .i64 0, .int .u32 0]) (.agg #[.int .i64 0, .int .i64 0, .int .u32 0])).run Tryd.prog W = .ok (.bool false) W := fun W => pl_neq 0 0 0 W
            go_quiet (fail)
            go_wp2_with fail
            go_roundw
            case rel => exact ⟨k + 1, _, by go_num, by omega, by rw [CT.it]; rfl, ⟨(P4.it.quiet ((Keeps.refl _ _).drewN _)).free⟩⟩
            case measure => simp [natOf22]; omega
          | true =>
            obtain ⟨qc, ql, qd⟩ := qq
            have FN' : Aside (Calls Tryd.prog 16 #[ptr p, .int .i64 ((k : Int) + 1)] wr fun e w' => e = .returned (.tuple #[.agg #[.int .i64 qc, .int .i64 ql, .int .u32 (qd : Nat)], .bool true]) ∧ Aside (Keeps Nowhere wr w')) := FN
            clear FN
            have hwd := HO.it.wd _ (hfind_mem (by have := HF.it; simpa using this))
            have HWD := Aside.mk hwd
            have hof' : hof L ⟨qc, ql, qd⟩ = some ((k : Int) + 1) := HO.it.find_of.1 (by have := HF.it; simpa using this)
            have HOF := Aside.mk hof'
            clear hwd hof'
            go_upto_region 34 with (go_at_call 16; refine FN'.it.mono ?_; rintro e w4 ⟨rfl, K4⟩)
            have P4 := Aside.mk ((P.it.quiet K4.it).box 33 [.int .i64 qc, .int .i64 ql, .int .u32 (qd : Nat)])
            have e3 : w4.alloc (.cells [.int .i64 qc, .int .i64 ql, .int .u32 (qd : Nat)].toArray 33) = w4.alloc (.cells #[.int .i64 qc, .int .i64 ql, .int .u32 (qd : Nat)] 33) := rfl
            rw [e3] at P4
            clear FN' P e3
            generalize w4.alloc (.cells #[.int .i64 qc, .int .i64 ql, .int .u32 (qd : Nat)] 33) = w5 at P4 ⊢
            generalize w4.heap.size = b4 at P4 ⊢
            obtain ⟨r0, r1, r2⟩ := P4.it.plb (.head _)
            obtain ⟨lq, lcc, hlq, f0, _, _⟩ := P4.it.flag HBB.it
            injection hlq with e1 e2 e3
            subst e1 e3
            obtain ⟨rq, rcc, hrq, t0, t1, t2⟩ := P4.it.place HQQ.it
            injection hrq with e1 e4 e3
            subst e1 e3
            clear e2 e4
            have pe : ∀ W : World, (binOp .neq 33 (.agg #[.int .i64 qc, .int .i64 ql, .int .u32 (qd : Nat)]) (.agg #[.int .i64 qc, .int .i64 ql, .int .u32 (qd : Nat)])).run Tryd.prog W = .ok (.bool false) W := fun W => pl_neq qc ql qd W
            go_quiet (fail)
            have P5 := Aside.mk (P4.it.quiet ((Keeps.refl _ _).drewN nq))
            clear r0 r1 r2 f0 t0 t1 t2 pe P4
            generalize w5.drewN nq = w6 at P5 ⊢
            obtain ⟨r0, r1, r2⟩ := P5.it.plb (.head _)
            have OF := Aside.mk (of_at (x := ⟨qc, ql, qd⟩) P5.it.h HWD.it)
            rw [HOF.it] at OF
            simp only [Option.getD_some, Option.isSome_some] at OF
            have enn : ((k : Int) + 1 != (k : Int) + 1) = false := by simp
            have hcl2 : ((bs.take k).count true : Int) ≤ 1048576 := by omega
            generalize hct : (bs.take k).count true = ct at CT hcl hcl2 ⊢
            clear hct
            go_wp2_with (go_at_call 13; refine OF.it.mono ?_; rintro e w7 ⟨rfl, K7⟩)
            go_roundw
            case rel => exact ⟨k + 1, _, by go_num, by omega, by rw [CT.it]; go_num, ⟨(P5.it.quiet K7.it).free⟩⟩
            case measure => simp [natOf22]; omega
    · obtain ⟨z, hz⟩ : ∃ z, zs[j]? = some z := ⟨_, List.getElem?_eq_getElem (by rw [HN.it]; exact hlt)⟩
      obtain ⟨b, o, rfl, y0, y1, y2, y3, y4, hpw, hhw⟩ := op22_cells HZ.it hz
      obtain ⟨kd, ⟨xc, xl, xd⟩, hh⟩ := z
      simp only at y0 y1 y2 y3 y4 hpw hhw
      have hb := (K1.it.trans P.it.bel).block b (World.block_lt_of_cell? w _ y0) (fun x => x)
      have z0 : wr.cell? ⟨b, o + j * 5, none⟩ = some (.int .i64 kd) := by rw [World.cell?_of_block (w := w) hb]; exact y0
      have z1 : wr.cell? ⟨b, o + j * 5 + 1, none⟩ = some (.int .i64 xc) := by rw [World.cell?_of_block (w := w) hb]; exact y1
      have z2 : wr.cell? ⟨b, o + j * 5 + 2, none⟩ = some (.int .i64 xl) := by rw [World.cell?_of_block (w := w) hb]; exact y2
      have z3 : wr.cell? ⟨b, o + j * 5 + 3, none⟩ = some (.int .u32 (xd : Nat)) := by rw [World.cell?_of_block (w := w) hb]; exact y3
      have z4 : wr.cell? ⟨b, o + j * 5 + 4, none⟩ = some (.int .i64 hh) := by rw [World.cell?_of_block (w := w) hb]; exact y4
      have HP := Aside.mk hpw
      have HW := Aside.mk hhw
      have hgN : (g : Int) ≤ 1048576 := by omega
      have P3 := Aside.mk (P.it.box 35 [.int .i64 kd, .int .i64 xc, .int .i64 xl, .int .u32 (xd : Nat), .int .i64 hh])
      have e3 : wr.alloc (.cells [.int .i64 kd, .int .i64 xc, .int .i64 xl, .int .u32 (xd : Nat), .int .i64 hh].toArray 35) = wr.alloc (.cells #[.int .i64 kd, .int .i64 xc, .int .i64 xl, .int .u32 (xd : Nat), .int .i64 hh] 35) := rfl
      rw [e3] at P3
      clear y0 y1 y2 y3 y4 hb hz hpw P e3
      go_upto_region 11 with fail
      generalize wr.alloc (.cells #[.int .i64 kd, .int .i64 xc, .int .i64 xl, .int .u32 (xd : Nat), .int .i64 hh] 35) = w3 at P3 ⊢
      generalize give own wr.heap.size 8 = own3 at P3
      generalize wr.heap.size = b3 at P3 ⊢
      clear z0 z1 z2 z3 z4
      obtain ⟨k0, k1, k2, k3, k4⟩ := P3.it.opc (.head _)
      by_cases hkd : kd = 2
      · have q1 : (kd == 2) = true := by simp [hkd]
        clear hkd
        by_cases hz1 : hh < 1
        · have hdz : decide (hh ≥ 1) = false := decide_eq_false (by omega)
          have hdz' : ¬ (1 : Int) ≤ hh := by omega
          have hf : hfind L hh = none := P3.it.h.ok.low hz1
          have DR := Aside.mk (nv_drop P3 HW.it)
          rw [hf] at DR
          rw [hdel_absent hf] at DR
          simp only [Option.isSome_none] at DR
          clear hf
          go_wp2_with (go_at_call 12; refine DR.it.mono ?_; rintro e w4 ⟨rfl, P4⟩)
          go_roundw
          case rel => exact ⟨j + 1, g, _, _, _, own3, rfl, by go_num, by omega, by omega, M, ⟨P4.it.free⟩⟩
          case measure => simp [natOf22]; omega
        · by_cases hzg : (g : Int) < hh
          · have hdz : decide (hh ≥ 1) = true := decide_eq_true (by omega)
            have hdy : decide (hh ≤ (g : Int)) = false := decide_eq_false (by omega)
            have hz1' : (1 : Int) ≤ hh := by omega
            have hf : hfind L hh = none := P3.it.h.ok.last hzg
            have DR := Aside.mk (nv_drop P3 HW.it)
            rw [hf] at DR
            rw [hdel_absent hf] at DR
            simp only [Option.isSome_none] at DR
            clear hf
            go_wp2_with (go_at_call 12; refine DR.it.mono ?_; rintro e w4 ⟨rfl, P4⟩)
            go_roundw
            case rel => exact ⟨j + 1, g, _, _, _, own3, rfl, by go_num, by omega, by omega, M, ⟨P4.it.free⟩⟩
            case measure => simp [natOf22]; omega
          · obtain ⟨m, hm⟩ : ∃ m : Nat, hh - 1 = (m : Int) := ⟨(hh - 1).toNat, by omega⟩
            have hmg : m < g := by omega
            obtain ⟨bb, hbb⟩ : ∃ bb, bs[m]? = some bb := ⟨_, List.getElem?_eq_getElem (by rw [M.it.lb]; exact hmg)⟩
            obtain ⟨qq, hqq⟩ : ∃ qq, ps[m]? = some qq := ⟨_, List.getElem?_eq_getElem (by rw [M.it.lp]; exact hmg)⟩
            obtain ⟨lq, lcc, hlq, f0, _, _⟩ := P3.it.flag hbb
            injection hlq with e1 e2 e3
            subst e1 e3
            have hdz : decide (hh ≥ 1) = true := decide_eq_true (by omega)
            have hdy : decide (hh ≤ (g : Int)) = true := decide_eq_true (by omega)
            have hz1' : (1 : Int) ≤ hh := by omega
            have hzg' : hh ≤ (g : Int) := by omega
            have hmi : (m : Int) < (g : Int) := by omega
            have hf : hfind L hh = if bb = true then some qq else none := by have := M.it.at_ m bb qq hbb hqq; rw [← hm] at this; rw [show hh = hh - 1 + 1 by omega]; exact this
            have DR := Aside.mk (nv_drop P3 HW.it)
            have FL := Aside.mk (fun W' (Q : Nv A w1 own3 W' p g (hdel L hh) (.slice (some ⟨lq, 0, none⟩) g lc) bs (.slice pa g pc) ps [(b3, 35, [.int .i64 kd, .int .i64 xc, .int .i64 xl, .int .u32 (xd : Nat), .int .i64 hh])]) => Q.flag hbb)
            cases bb with
            | false =>
              simp only [Bool.false_eq_true, if_false] at hf
              rw [hf] at DR
              rw [hdel_absent hf] at DR
              simp only [Option.isSome_none] at DR
              have M' := Aside.mk M.it
              clear FL hf hbb hqq e2
              go_wp2_with (go_at_call 12; refine DR.it.mono ?_; rintro e w4 ⟨rfl, P4⟩)
              go_roundw
              case rel => exact ⟨j + 1, g, _, _, _, own3, rfl, by go_num, by omega, by omega, M', ⟨P4.it.free⟩⟩
              case measure => simp [natOf22]; omega
            | true =>
              simp only [if_true] at hf
              rw [hf] at DR
              simp only [Option.isSome_some] at DR
              have M' := Aside.mk (M.it.drop P3.it.h.ok hbb hqq)
              have hm1 : (m : Int) + 1 = hh := by omega
              rw [hm1] at M'
              clear hf hbb hqq e2 hm1
              go_upto_region 15 with (go_at_call 12; refine DR.it.mono ?_; rintro e w4 ⟨rfl, P4⟩)
              obtain ⟨q0, q2, hq0, f1, f2, P5⟩ := FL.it w4 P4.it
              injection hq0 with e1 e2 e3
              injection e1 with e1
              injection e1 with e1
              subst e1
              clear k0 k1 k2 k3 k4 e2 e3 f0
              obtain ⟨k0, k1, k2, k3, k4⟩ := P4.it.opc (.head _)
              clear FL DR P3 P4
              go_wp2_with fail
              go_roundw
              case rel => exact ⟨j + 1, g, _, _, _, own3, rfl, by go_num, by omega, by omega, M', ⟨P5.it.free⟩⟩
              case measure => simp [natOf22]; omega
      · have q1 : (kd == 2) = false := by simp [hkd]
        clear hkd
        have OF := Aside.mk (of_at (x := ⟨xc, xl, xd⟩) P3.it.h HP.it)
        have hg31 : ¬ 2147483648 ≤ g := by omega
        cases ho : hof L ⟨xc, xl, xd⟩ with
        | some y =>
          rw [ho] at OF
          simp only [Option.getD_some, Option.isSome_some] at OF
          have HF := Aside.mk (P3.it.h.ok.find_of.2 ho)
          have HOF := Aside.mk ho
          have hyb := P3.it.h.ok.b _ (hof_mem ho)
          simp only at hyb
          go_upto_region 18 with (go_at_call 13; refine OF.it.mono ?_; rintro e w4 ⟨rfl, K4⟩)
          have P4 := Aside.mk (P3.it.quiet K4.it)
          clear k0 k1 k2 k3 k4 OF P3
          obtain ⟨k0, k1, k2, k3, k4⟩ := P4.it.opc (.head _)
          have BD := Aside.mk (nv_bind (x := ⟨xc, xl, xd⟩) P4 HP.it)
          unfold bindN bindC bindG bindL at BD
          simp only [ho, Option.isSome_some, if_true] at BD
          clear ho
          go_upto_region 19 with (go_at_call 14; refine BD.it.mono ?_; rintro e w5 ⟨ev, rfl, C5, P5⟩)
          have CD := Aside.mk (code_of P5.it.og.sents C5.out)
          clear k0 k1 k2 k3 k4 BD P4
          go_upto_region 25 with (go_at_call 15; refine CD.it.mono ?_; rintro e w6 ⟨rfl, hw6⟩; subst hw6)
          clear CD C5
          obtain ⟨k0, k1, k2, k3, k4⟩ := P5.it.opc (.head _)
          have OF := Aside.mk (of_at (x := ⟨xc, xl, xd⟩) P5.it.h HP.it)
          rw [HOF.it] at OF
          simp only [Option.getD_some, Option.isSome_some] at OF
          go_upto_region 26 with (go_at_call 13; refine OF.it.mono ?_; rintro e w9 ⟨rfl, K9⟩)
          have P9 := Aside.mk (P5.it.quiet K9.it)
          clear k0 k1 k2 k3 k4 OF P5
          have FN := Aside.mk (find_at (z := y) P9.it.h ⟨by omega, by omega⟩)
          rw [HF.it] at FN
          have FN' : Aside (Calls Tryd.prog 16 #[ptr p, .int .i64 (y)] w9 fun e w' => e = .returned (.tuple #[.agg #[.int .i64 xc, .int .i64 xl, .int .u32 (xd : Nat)], .bool true]) ∧ Aside (Keeps Nowhere w9 w')) := FN
          clear FN
          go_upto_region 27 with (go_at_call 16; refine FN'.it.mono ?_; rintro e w10 ⟨rfl, K10⟩)
          have P10 := Aside.mk ((P9.it.quiet K10.it).box 33 [.int .i64 xc, .int .i64 xl, .int .u32 (xd : Nat)])
          have e3 : w10.alloc (.cells [.int .i64 xc, .int .i64 xl, .int .u32 (xd : Nat)].toArray 33) = w10.alloc (.cells #[.int .i64 xc, .int .i64 xl, .int .u32 (xd : Nat)] 33) := rfl
          rw [e3] at P10
          clear e3 FN' P9
          generalize w10.alloc (.cells #[.int .i64 xc, .int .i64 xl, .int .u32 (xd : Nat)] 33) = w11 at P10 ⊢
          generalize w10.heap.size = b11 at P10 ⊢
          obtain ⟨k0, k1, k2, k3, k4⟩ := P10.it.opc (.tail _ (.head _))
          obtain ⟨r0, r1, r2⟩ := P10.it.plb (.head _)
          have pe : ∀ W : World, (binOp .neq 33 (.agg #[.int .i64 xc, .int .i64 xl, .int .u32 (xd : Nat)]) (.agg #[.int .i64 xc, .int .i64 xl, .int .u32 (xd : Nat)])).run Tryd.prog W = .ok (.bool false) W := fun W => pl_neq xc xl xd W
          go_wp2_with fail
          go_roundw
          case rel => exact ⟨j + 1, g, _, _, _, _, rfl, by go_num, by omega, by omega, M, ⟨P10.it.free⟩⟩
          case measure => simp [natOf22]; omega
        | none =>
          rw [ho] at OF
          simp only [Option.getD_none, Option.isSome_none] at OF
          have HOF := Aside.mk ho
          go_upto_region 18 with (go_at_call 13; refine OF.it.mono ?_; rintro e w4 ⟨rfl, K4⟩)
          have P4 := Aside.mk (P3.it.quiet K4.it)
          clear k0 k1 k2 k3 k4 OF
          obtain ⟨k0, k1, k2, k3, k4⟩ := P4.it.opc (.head _)
          have BD := Aside.mk (nv_bind (x := ⟨xc, xl, xd⟩) P4 HP.it)
          unfold bindN bindC bindG bindL at BD
          simp only [ho, Option.isSome_none, Bool.false_eq_true, if_false, hg31] at BD
          have M' := Aside.mk (M.it.bind P3.it.h.ok ⟨xc, xl, xd⟩)
          have HF : Aside (hfind (L ++ [((g : Int) + 1, ⟨xc, xl, xd⟩)]) ((g : Int) + 1) = some ⟨xc, xl, xd⟩) := ⟨by rw [P3.it.h.ok.find_bind, if_pos rfl]⟩
          have HOF2 : Aside (hof (L ++ [((g : Int) + 1, ⟨xc, xl, xd⟩)]) ⟨xc, xl, xd⟩ = some ((g : Int) + 1)) := ⟨by rw [HOk.of_bind ho, if_pos rfl]⟩
          clear ho HOF P3
          go_upto_region 19 with (go_at_call 14; refine BD.it.mono ?_; rintro e w5 ⟨ev, rfl, C5, P5⟩; have e5 : ev = .nilIface := Coded.zero C5.out; subst e5)
          have CD := Aside.mk (code_nil w5)
          have en : ((g : Int) + 1 != (g : Int) + 1) = false := by simp
          clear k0 k1 k2 k3 k4 BD P4
          go_upto_region 23 with (go_at_call 15; refine CD.it.mono ?_; rintro e w6 ⟨rfl, hw6⟩; subst hw6)
          clear CD C5
          have LB := Aside.mk M.it.lb
          have LP := Aside.mk M.it.lp
          have ob := P5.it.lv.1
          have op := P5.it.pl.1
          rw [LB.it] at ob
          go_upto_region 24 with (first
            | (at_builtin; refine wpList_appendS rfl (.tmp 117) (.tmp 118) 38 rfl 4 (.bool false) 1 1 Tryd.underlying38 binfo rfl (by decide) w6 ((Keeps.refl _ _).alloc _) _ _ _ ob _ 1 [.bool true] (by decide) (readsK_new _ _ [.bool true]) (by simp [Value.oneCell']) (by omega) (by unfold maxLen; omega) rfl rfl ?_; intro v7 w7 o7 s7; obtain ⟨g0, g1, g2, hv7⟩ := owns_shapeK o7.it; subst hv7; obtain rfl := owns_len o7.it)
            | go_in)
          obtain ⟨own7, P7⟩ : ∃ own7, Aside (Nv A w1 own7 w7 p (g + 1) (L ++ [((g : Int) + 1, ⟨xc, xl, xd⟩)]) (.slice g0 (g + 1) g2) (bs ++ [true]) (.slice pa g pc) ps [(b3, 35, [.int .i64 kd, .int .i64 xc, .int .i64 xl, .int .u32 (xd : Nat), .int .i64 hh])]) := by
            obtain ⟨own7, h7⟩ := P5.it.appL ((Keeps.refl _ _).alloc _) (by rw [LB.it]; exact o7.it) s7.it
            exact ⟨own7, ⟨h7⟩⟩
          clear ob op o7 s7 P5
          obtain ⟨k0, k1, k2, k3, k4⟩ := P7.it.opc (.head _)
          have op := P7.it.pl.1
          rw [LP.it] at op
          go_upto_region 25 with (first
            | (at_builtin; refine wpList_appendS rfl (.tmp 120) (.tmp 123) 39 rfl 33 (.agg #[.int .i64 0, .int .i64 0, .int .u32 0]) 3 24 Tryd.underlying39 plinfo rfl (by decide) w7 ((Keeps.refl _ _).alloc _) _ _ _ op _ 1 [.int .i64 xc, .int .i64 xl, .int .u32 (xd : Nat)] (by decide) (readsK_new _ _ [.int .i64 xc, .int .i64 xl, .int .u32 (xd : Nat)]) (by simp [Value.oneCell']) (by omega) (by unfold maxLen; omega) rfl rfl ?_; intro v8 w8 o8 s8; obtain ⟨h0, h1, h2, hv8⟩ := owns_shapeK o8.it; subst hv8; obtain rfl := owns_len o8.it)
            | go_in)
          obtain ⟨own8, P8⟩ : ∃ own8, Aside (Nv A w1 own8 w8 p (g + 1) (L ++ [((g : Int) + 1, ⟨xc, xl, xd⟩)]) (.slice g0 (g + 1) g2) (bs ++ [true]) (.slice h0 (g + 1) h2) (ps ++ [⟨xc, xl, xd⟩]) [(b3, 35, [.int .i64 kd, .int .i64 xc, .int .i64 xl, .int .u32 (xd : Nat), .int .i64 hh])]) := by
            obtain ⟨own8, h8⟩ := P7.it.appP (q := ⟨xc, xl, xd⟩) ((Keeps.refl _ _).alloc _) (by rw [LP.it]; exact o8.it) s8.it
            exact ⟨own8, ⟨h8⟩⟩
          clear op o8 s8 P7 k0 k1 k2 k3 k4
          have HOF := HOF2
          have hyb : (1 : Int) ≤ (g : Int) + 1 ∧ (g : Int) + 1 ≤ (g : Int) + 1 := by omega
          obtain ⟨k0, k1, k2, k3, k4⟩ := P8.it.opc (.head _)
          have OF := Aside.mk (of_at (x := ⟨xc, xl, xd⟩) P8.it.h HP.it)
          rw [HOF.it] at OF
          simp only [Option.getD_some, Option.isSome_some] at OF
          go_upto_region 26 with (go_at_call 13; refine OF.it.mono ?_; rintro e w9 ⟨rfl, K9⟩)
          have P9 := Aside.mk (P8.it.quiet K9.it)
          clear k0 k1 k2 k3 k4 OF P8
          have FN := Aside.mk (find_at (z := (g : Int) + 1) P9.it.h ⟨by omega, by omega⟩)
          rw [HF.it] at FN
          have FN' : Aside (Calls Tryd.prog 16 #[ptr p, .int .i64 ((g : Int) + 1)] w9 fun e w' => e = .returned (.tuple #[.agg #[.int .i64 xc, .int .i64 xl, .int .u32 (xd : Nat)], .bool true]) ∧ Aside (Keeps Nowhere w9 w')) := FN
          clear FN
          go_upto_region 27 with (go_at_call 16; refine FN'.it.mono ?_; rintro e w10 ⟨rfl, K10⟩)
          have P10 := Aside.mk ((P9.it.quiet K10.it).box 33 [.int .i64 xc, .int .i64 xl, .int .u32 (xd : Nat)])
          have e3 : w10.alloc (.cells [.int .i64 xc, .int .i64 xl, .int .u32 (xd : Nat)].toArray 33) = w10.alloc (.cells #[.int .i64 xc, .int .i64 xl, .int .u32 (xd : Nat)] 33) := rfl
          rw [e3] at P10
          clear e3 FN' P9
          generalize w10.alloc (.cells #[.int .i64 xc, .int .i64 xl, .int .u32 (xd : Nat)] 33) = w11 at P10 ⊢
          generalize w10.heap.size = b11 at P10 ⊢
          obtain ⟨k0, k1, k2, k3, k4⟩ := P10.it.opc (.tail _ (.head _))
          obtain ⟨r0, r1, r2⟩ := P10.it.plb (.head _)
          have pe : ∀ W : World, (binOp .neq 33 (.agg #[.int .i64 xc, .int .i64 xl, .int .u32 (xd : Nat)]) (.agg #[.int .i64 xc, .int .i64 xl, .int .u32 (xd : Nat)])).run Tryd.prog W = .ok (.bool false) W := fun W => pl_neq xc xl xd W
          go_wp2_with fail
          go_roundw
          case rel => exact ⟨j + 1, g + 1, _, _, _, _, by go_num, by go_num, by omega, by omega, M', ⟨P10.it.free⟩⟩
          case measure => simp [natOf22]; omega
end Go.Proofs.YtjloedcikcamkaaDoor
