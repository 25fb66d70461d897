import Derived.Test.YthjeeianlgkaaaaDoorLuZ
import Derived.Test.YthjeeianlgkaaaaDoorLuJ
import Derived.BigRegion
/-
  LruKinds: three caches in step
-/
namespace Go.Proofs.YthjeeianlgkaaaaDoor
open Go.RowKit

variable {w w' w0 W : World} {own own' : Nat → Nat} {i c o j ca cb cc q n : Nat} {room k now t b : Int} {L M La Lb Lc Lv : List Rx} {I : Nat → Prop} {A : Nat → Addr} {x y : Rx} {z : Oz} {v va vb : Value} {H : Int → Int}

def sub (H : Int → Int) (x : Rx) : Rx := ⟨x.k, H x.k, x.w, x.u⟩
def setH (H : Int → Int) (k b : Int) : Int → Int := fun k' => if k' = k then b else H k'
theorem sub_key : keyL (L.map (sub H)) = keyL L := by unfold keyL; rw [List.map_map]; rfl
theorem sub_sum : sumL (L.map (sub H)) = sumL L := by unfold sumL; rw [List.map_map]; rfl
theorem sub_drop : dropL (L.map (sub H)) k = (dropL L k).map (sub H) := by unfold dropL; rw [List.eraseP_map]; rfl
theorem sub_find : findL (L.map (sub H)) k = (findL L k).map (sub H) := by unfold findL; rw [List.find?_map]; rfl
theorem sub_stay : stayL (L.map (sub H)) now = (stayL L now).map (sub H) := by unfold stayL; rw [List.filter_map]; rfl
theorem sub_old : oldL (L.map (sub H)) now = (oldL L now).map (sub H) := by unfold oldL; rw [List.filter_map]; rfl
theorem sub_fitN (lim : Int) (n : Nat) : fitN lim (L.map (sub H)) n = fitN lim L n := by
  induction n with
  | zero => rfl
  | succ n ih => unfold fitN; rw [← List.map_take, sub_sum, ih]
theorem sub_fit (lim : Int) : fit lim (L.map (sub H)) = fit lim L := by unfold fit; rw [List.length_map, sub_fitN]
theorem sub_set (h : k ∉ keyL L) : L.map (sub (setH H k b)) = L.map (sub H) := by
  refine List.map_congr_left fun x hx => ?_
  have : x.k ≠ k := fun e => h (by rw [← e]; exact List.mem_map.2 ⟨x, hx, rfl⟩)
  unfold sub setH
  rw [if_neg this]
theorem sub_put (h : (keyL L).Nodup) (room : Int) (W u : Int) : putL room (L.map (sub H)) ⟨k, b, W, u⟩ = (putL room L ⟨k, t, W, u⟩).map (sub (setH H k b)) := by
  unfold putL
  simp only [sub_drop, sub_fit, List.map_cons, List.map_take]
  rw [sub_set (dropL_out h)]
  congr 1
  unfold sub setH
  simp
theorem sub_gone (room : Int) (W u : Int) : Lulpp.goneX room (L.map (sub H)) ⟨k, b, W, u⟩ = (Lulnn.goneX room L ⟨k, t, W, u⟩).map (sub H) := by
  unfold Lulpp.goneX Lulnn.goneX
  simp only [sub_drop, sub_fit, List.map_reverse, List.map_drop]
theorem sub_get : getL (L.map (sub H)) k now = (getL L k now).map (sub H) := by
  unfold getL
  rw [sub_find, sub_drop]
  cases findL L k with
  | none => rfl
  | some x =>
    simp only [Option.map_some]
    show (if now < x.u then _ else _) = List.map (sub H) (if now < x.u then _ else _)
    split <;> simp
theorem sub_gotB : gotB (L.map (sub H)) k now = gotB L k now := by
  unfold gotB
  rw [sub_find]
  cases findL L k <;> rfl
theorem sub_has : hasL (L.map (sub H)) k = hasL L k := by
  unfold hasL
  rw [sub_find]
  cases findL L k <;> rfl
theorem va_nat (b : Nat) : Lulpp.va (b : Int) = some ⟨b, 0, none⟩ := by unfold Lulpp.va; rw [if_pos (by omega)]; rfl
theorem vn_nat (b : Nat) : Lulpp.vn (b : Int) = 1 := by unfold Lulpp.vn; rw [if_pos (by omega)]
theorem kv_in (h : I6 k) : Lulpp.kv k = .agg #[.int .i64 k, .int .i64 7] := by unfold Lulpp.kv; rw [Lulpp.p0_in h, Lulpp.p1_in h]
theorem tv_nat (b : Nat) : Lulpp.tv (b : Int) = .slice (some ⟨b, 0, none⟩) 1 1 := by unfold Lulpp.tv; rw [va_nat, vn_nat]
/-- what stands under the keys of the third -/
def Hv (own : Nat → Nat) (W : World) (H : Int → Int) (L : List Rx) : Prop := ∀ x ∈ L, ∃ b : Nat, H x.k = (b : Int) ∧ I6 x.t ∧ CellsO own 20 W b 3 [.int .i64 x.t]
theorem Hv.sub (h : Hv own W H L) (hs : ∀ x ∈ M, x ∈ L) : Hv own W H M := fun x hx => h x (hs x hx)
theorem Hv.sn (h : Hv own W H L) (s : Sn I own W own' w') (hi : ¬ I 20) : Hv own' w' H L := fun x hx => by
  obtain ⟨b, e, ht, hc⟩ := h x hx
  exact ⟨b, e, ht, hc.sn s hi⟩
structure Kw (A : Nat → Addr) (w : World) (own : Nat → Nat) (W : World) (ca cb cc : Nat) (room : Int) (La Lb Lc : List Rx) (H : Int → Int) (Lv : List Rx) : Prop where
  og : OnG A w own W
  pw : PowT w
  a : Lulnn.CaO own 1 W ca room La
  b : Lultt.CaO own 2 W cb room Lb
  c : Lulpp.CaO own 3 W cc room Lc
  v : Hv own W H Lv
theorem Kw.sn (h : Kw A w own W ca cb cc room La Lb Lc H Lv) (s : Sn I own W own' w') (h0 : ¬ I 0) (h1 : ¬ I 1) (h2 : ¬ I 2) (h3 : ¬ I 3) (h20 : ¬ I 20) : Kw A w own' w' ca cb cc room La Lb Lc H Lv :=
  ⟨h.og.sn s h0, h.pw, h.a.sn s h1, h.b.sn s h2, h.c.sn s h3, h.v.sn s h20⟩
theorem Kw.quiet (h : Kw A w own W ca cb cc room La Lb Lc H Lv) (hk : Keeps Nowhere W w') : Kw A w own w' ca cb cc room La Lb Lc H Lv := h.sn (I := fun _ => False) (Sn.same hk) (fun x => x) (fun x => x) (fun x => x) (fun x => x) (fun x => x)
theorem Kw.setA (h : Kw A w own W ca cb cc room La Lb Lc H Lv) (s : Sn (fun k => k = 1) own W own' w') (hc : Lulnn.CaO own' 1 w' ca room M) : Kw A w own' w' ca cb cc room M Lb Lc H Lv :=
  ⟨h.og.sn s (by decide), h.pw, hc, h.b.sn s (by decide), h.c.sn s (by decide), h.v.sn s (by decide)⟩
theorem Kw.setB (h : Kw A w own W ca cb cc room La Lb Lc H Lv) (s : Sn (fun k => k = 2) own W own' w') (hc : Lultt.CaO own' 2 w' cb room M) : Kw A w own' w' ca cb cc room La M Lc H Lv :=
  ⟨h.og.sn s (by decide), h.pw, h.a.sn s (by decide), hc, h.c.sn s (by decide), h.v.sn s (by decide)⟩
theorem Kw.setC (h : Kw A w own W ca cb cc room La Lb Lc H Lv) (s : Sn (fun k => k = 3) own W own' w') (hc : Lulpp.CaO own' 3 w' cc room M) : Kw A w own' w' ca cb cc room La Lb M H Lv :=
  ⟨h.og.sn s (by decide), h.pw, h.a.sn s (by decide), h.b.sn s (by decide), hc, h.v.sn s (by decide)⟩
theorem Kw.pow (h : Kw A w own W ca cb cc room La Lb Lc H Lv) : PowT W := powT_later h.pw h.og.g.bel
def goneB (room : Int) (L : List Rx) (z : Oz) : List Rx := if mayP room z.w = true then Lulnn.goneX room L z.rx else []
def codeB (room : Int) (z : Oz) : Int := if z.w < 0 then 2 else if room < z.w then 6 else 0
theorem owR_len {e : TypeId} {k n m : Nat} {xs : List Value} {qa : Option Addr} {qc : Nat} (h : OwR own o W e k (.slice qa n qc) m xs) : n = m := by
  rcases h.1.2 with ⟨e, h0⟩ | ⟨g, cap, cur, e, _⟩
  · injection e with _ e2 _; omega
  · injection e
theorem putN_any (h : Lulnn.CaO own i w c room L) (hs : Sents 144 codeVars A w) (hz : z.Ok) (hmax : L.length * 8 ≤ 140737488355328) (o : Nat) :
    Calls Tryd.prog 21 #[ptr c, .int .i64 z.k, .int .i64 z.v, .int .i64 z.w, .int .i64 z.u] w fun e w' => ∃ qa qc ev own', e = .returned (.tuple #[.slice qa (goneB room L z).length qc, ev]) ∧ Aside (Lulnn.CaO own' i w' c room (putB room L z)) ∧ Aside (Coded A ev (codeB room z)) ∧ Aside (OwR own' o w' 3 1 (.slice qa (goneB room L z).length qc) (goneB room L z).length (Lulnn.rk (goneB room L z))) ∧ Aside (Sn (fun k => k = i) own w own' w') := by
  refine (put_any h hs hz hmax o).mono ?_
  rintro e w' ⟨qa, qn, qc, ev, own', rfl, h1, h2, h3, h4⟩
  obtain rfl := owR_len h3.it
  exact ⟨qa, qc, ev, own', rfl, h1, h2, h3, h4⟩
theorem putT_any (h : Lultt.CaO own i w c room L) (hs : Sents 144 codeVars A w) (hz : z.Ok) (hmax : L.length * 16 ≤ 140737488355328) (o : Nat) :
    Calls Tryd.prog 22 #[ptr c, .string (Lultt.tx z.k), .string (Lultt.tx z.v), .int .i64 z.w, .int .i64 z.u] w fun e w' => ∃ qa qc ev own', e = .returned (.tuple #[.slice qa (goneB room L z).length qc, ev]) ∧ Aside (Lultt.CaO own' i w' c room (putB room L z)) ∧ Aside (Coded A ev (codeB room z)) ∧ Aside (OwR own' o w' 9 1 (.slice qa (goneB room L z).length qc) (goneB room L z).length (Lultt.rk (goneB room L z))) ∧ Aside (Sn (fun k => k = i) own w own' w') := by
  unfold goneB putB codeB
  cases hm : mayP room z.w with
  | true =>
    obtain ⟨h0, hr⟩ := may_true hm
    simp only [eq_self, if_true]
    refine (Lultt.put_o (x := z.rx) h (hz.rx h0) hr hmax o).mono ?_
    rintro e w' ⟨v, own', rfl, J, S⟩
    obtain ⟨qa, qn, qc, rfl⟩ := owns_shapeK J.it.2.1
    obtain rfl := owR_len J.it.2
    rw [if_neg (by omega), if_neg (by omega)]
    exact ⟨qa, qc, _, own', rfl, ⟨J.it.1⟩, ⟨Coded.none⟩, ⟨J.it.2⟩, S⟩
  | false =>
    simp only [Bool.false_eq_true, if_false]
    rcases may_false hm with h0 | ⟨h0, hr⟩
    · refine (Lultt.put_neg hs c z.k (.string (Lultt.tx z.v)) z.u h0).mono ?_
      rintro e w' ⟨rfl, rfl⟩
      rw [if_pos h0]
      exact ⟨_, _, _, own, rfl, ⟨h⟩, ⟨Coded.mk 1 2 (by decide) (by decide) rfl⟩, ⟨OwR.zero⟩, ⟨Sn.refl _ _ _⟩⟩
    · refine (Lultt.put_full hs h z.k (.string (Lultt.tx z.v)) z.u h0 hr).mono ?_
      rintro e w' ⟨rfl, rfl⟩
      rw [if_neg (by omega), if_pos hr]
      exact ⟨_, _, _, own, rfl, ⟨h⟩, ⟨Coded.mk 5 6 (by decide) (by decide) rfl⟩, ⟨OwR.zero⟩, ⟨Sn.refl _ _ _⟩⟩
/-- the third's Put, with the block of its thing -/
theorem putP_any (h : Lulpp.CaO own i w c room (L.map (sub H))) (hs : Sents 144 codeVars A w) (hn : (keyL L).Nodup) (hz : z.Ok) (hmax : L.length * 16 ≤ 140737488355328) (g o : Nat) :
    Calls Tryd.prog 23 #[ptr c, .agg #[.int .i64 z.k, .int .i64 7], .slice (some ⟨g, 0, none⟩) 1 1, .int .i64 z.w, .int .i64 z.u] w fun e w' => ∃ qa qc ev own' H', e = .returned (.tuple #[.slice qa (goneB room L z).length qc, ev]) ∧ Aside (Lulpp.CaO own' i w' c room ((putB room L z).map (sub H')) ∧ (∀ k', k' ≠ z.k ∨ mayP room z.w = false → H' k' = H k') ∧ (mayP room z.w = true → H' z.k = (g : Int))) ∧ Aside (Coded A ev (codeB room z)) ∧ Aside (OwR own' o w' 55 2 (.slice qa (goneB room L z).length qc) (goneB room L z).length ((keyL (goneB room L z)).flatMap Lulpp.kcs)) ∧ Aside (Sn (fun k => k = i) own w own' w') := by
  unfold goneB putB codeB
  cases hm : mayP room z.w with
  | true =>
    obtain ⟨h0, hr⟩ := may_true hm
    simp only [eq_self, if_true]
    have P := Lulpp.put_o (x := ⟨z.k, (g : Int), z.w, z.u⟩) h ⟨hz.k, ⟨h0, hz.w.2⟩, hz.u⟩ hr (by rw [List.length_map]; exact hmax) o
    simp only at P
    rw [kv_in hz.k, tv_nat] at P
    refine P.mono ?_
    rintro e w' ⟨v, own', rfl, J, S⟩
    obtain ⟨qa, qn, qc, rfl⟩ := owns_shapeK J.it.2.1
    obtain rfl := owR_len J.it.2
    have J1 := J.it.1
    have J2 := J.it.2
    rw [sub_put (t := z.v) hn] at J1
    rw [sub_gone (t := z.v), List.length_map, rkP, sub_key] at J2
    rw [if_neg (by omega), if_neg (by omega)]
    refine ⟨qa, qc, _, own', _, by rw [sub_gone (t := z.v), List.length_map]; rfl, ⟨J1, fun k' hk' => ?_, fun _ => if_pos rfl⟩, ⟨Coded.none⟩, ⟨J2⟩, S⟩
    rcases hk' with e | e
    · exact if_neg e
    · cases e
  | false =>
    simp only [Bool.false_eq_true, if_false]
    rcases may_false hm with h0 | ⟨h0, hr⟩
    · have P := Lulpp.put_neg hs c z.k (.slice (some ⟨g, 0, none⟩) 1 1) z.u h0
      rw [kv_in hz.k] at P
      refine P.mono ?_
      rintro e w' ⟨rfl, K⟩
      rw [if_pos h0]
      exact ⟨_, _, _, own, H, rfl, ⟨h.quiet K.it, fun _ _ => rfl, fun e => by cases e⟩, ⟨Coded.mk 1 2 (by decide) (by decide) rfl⟩, ⟨OwR.zero⟩, ⟨Sn.same K.it⟩⟩
    · have P := Lulpp.put_full hs h z.k (.slice (some ⟨g, 0, none⟩) 1 1) z.u h0 hr
      rw [kv_in hz.k] at P
      refine P.mono ?_
      rintro e w' ⟨rfl, K⟩
      rw [if_neg (by omega), if_pos hr]
      exact ⟨_, _, _, own, H, rfl, ⟨h.quiet K.it, fun _ _ => rfl, fun e => by cases e⟩, ⟨Coded.mk 5 6 (by decide) (by decide) rfl⟩, ⟨OwR.zero⟩, ⟨Sn.same K.it⟩⟩
end Go.Proofs.YthjeeianlgkaaaaDoor

/-
  LruKinds: what a Get answers; what is under the keys behind a Put; the pair's box
-/
namespace Go.Proofs.YthjeeianlgkaaaaDoor
open Go.RowKit

variable {w w' w0 W W1 : World} {own own' : Nat → Nat} {i c o j ca cb cc q n g ob : Nat} {room k now t b : Int} {L M La Lb Lc Lv : List Rx} {I : Nat → Prop} {A : Nat → Addr} {x y : Rx} {z : Oz} {v va vb : Value} {H H' : Int → Int}

theorem got_cases (L : List Rx) (H : Int → Int) (k now : Int) : (gotB L k now = false ∧ gotT L k now = 0 ∧ Lultt.gvV L k now = .string ByteArray.empty ∧ Lulpp.gvV (L.map (sub H)) k now = .slice none 0 0) ∨ (∃ x ∈ L, x.k = k ∧ gotB L k now = true ∧ gotT L k now = x.t ∧ Lultt.gvV L k now = .string (Lultt.tx x.t) ∧ Lulpp.gvV (L.map (sub H)) k now = Lulpp.tv (H x.k)) := by
  unfold gotB gotT Lultt.gvV Lulpp.gvV
  rw [sub_find]
  cases hf : findL L k with
  | none => exact .inl ⟨rfl, rfl, rfl, rfl⟩
  | some x =>
    obtain ⟨h1, h2⟩ := findL_some hf
    simp only [Option.map_some]
    by_cases hu : now < x.u
    · right
      refine ⟨x, h1, h2, decide_eq_true hu, if_pos hu, if_pos hu, ?_⟩
      show (if now < x.u then _ else _) = _
      rw [if_pos hu]
      rfl
    · left
      refine ⟨decide_eq_false hu, if_neg hu, if_neg hu, ?_⟩
      show (if now < x.u then _ else _) = _
      rw [if_neg hu]
theorem Hv.put (h : Hv own W H L) (hn : (keyL L).Nodup) (h1 : ∀ k', k' ≠ z.k ∨ mayP room z.w = false → H' k' = H k') (h2 : mayP room z.w = true → H' z.k = (g : Int)) (hv : I6 z.v) (hc : CellsO own 20 W g 3 [.int .i64 z.v]) : Hv own W H' (putB room L z) := by
  unfold putB
  cases hm : mayP room z.w with
  | true =>
    simp only [eq_self, if_true]
    intro x hx
    unfold putL at hx
    rcases List.mem_cons.1 hx with e | e
    · subst e
      exact ⟨g, h2 hm, hv, hc⟩
    · have h3 := List.mem_of_mem_take e
      have h4 : x.k ≠ z.k := fun ek => dropL_out (k := z.k) hn (List.mem_map.2 ⟨x, h3, ek⟩)
      obtain ⟨b, e1, e2⟩ := h x (dropL_sub.subset h3)
      exact ⟨b, (h1 _ (.inl h4)).trans e1, e2⟩
  | false =>
    simp only [Bool.false_eq_true, if_false]
    intro x hx
    obtain ⟨b, e1, e2⟩ := h x hx
    exact ⟨b, (h1 _ (.inr hm)).trans e1, e2⟩
/-- what stays of the call's box while a text is made -/
structure Bq (W1 : World) (ob : Nat) (k : Int) (W : World) : Prop where
  keeps : Keeps Nowhere W1 W
  c1 : W.cell? ⟨ob, 1, none⟩ = some (.int .i64 k)
theorem Bq.next (h : Aside (Bq W1 ob k w)) (kk : Keeps Nowhere w w') : Aside (Bq W1 ob k w') := ⟨⟨h.it.keeps.trans kk, by rw [World.cell?_of_block (w := w) (kk.block ob (World.block_lt_of_cell? w _ h.it.c1) (fun x => x))]; exact h.it.c1⟩⟩
theorem Bq.k1 (h : Aside (Bq W1 ob k w)) : w.cell? ⟨ob, 1, none⟩ = some (.int .i64 k) := h.it.c1
theorem set2_keeps {gk : Nat} {x y : Value} (w : World) : Keeps (fun c => c = gk) w ((w.setCell ⟨gk, 0, none⟩ x).setCell ⟨gk, 1, none⟩ y) := ((Keeps.refl (fun c => c = gk) w).setCell ⟨gk, 0, none⟩ x (fun _ => rfl)).setCell ⟨gk, 1, none⟩ y (fun _ => rfl)
theorem set2_cell {gk : Nat} {x y u : Value} (hne : ob ≠ gk) (h : w.cell? ⟨ob, 1, none⟩ = some u) : ((w.setCell ⟨gk, 0, none⟩ x).setCell ⟨gk, 1, none⟩ y).cell? ⟨ob, 1, none⟩ = some u := by
  rw [World.cell?_of_block ((set2_keeps (x := x) (y := y) w).block ob (World.block_lt_of_cell? w _ h) hne)]
  exact h
theorem Bq.fresh {gk : Nat} (h : Aside (Bq W1 ob k w)) (hg : W1.heap.size ≤ gk) (x y : Value) : Keeps Nowhere W1 ((w.setCell ⟨gk, 0, none⟩ x).setCell ⟨gk, 1, none⟩ y) :=
  h.it.keeps.next (set2_keeps w) (fun c e hlt => by omega)
theorem kcs_bd (hb : ∀ x ∈ L, I6 x.k) : ∀ k ∈ keyL L, I6 k := fun k hk => by
  obtain ⟨x, hx, rfl⟩ := List.mem_map.1 hk
  exact hb x hx
theorem to_of {n5 n6 n7 : Nat} {ra rb rc : Value} (h1 : W.ownsRow 0 3 1 ra n5 (Lulnn.rk L)) (h2 : W.ownsRow 0 9 1 rb n6 (Lultt.rk L)) (h3 : W.ownsRow 0 55 2 rc n7 ((keyL L).flatMap Lulpp.kcs)) (e5 : n5 = L.length) (e6 : n6 = L.length) (e7 : n7 = L.length) (hb : ∀ x ∈ L, I6 x.k) : To W ra rb rc (keyL L) := by
  subst e5 e6 e7
  have hl : (keyL L).length = L.length := keyL_len L
  have r1 := owns_readsK h1
  have r2 := owns_readsK h2
  have r3 := owns_readsK h3
  rw [rkN] at r1
  rw [rkT] at r2
  exact ⟨by rw [hl]; exact r1, by rw [hl]; exact r2, by rw [hl]; exact r3, kcs_bd hb⟩
theorem goneB_ok (h : LOk room L) (z : Oz) : ∀ x ∈ goneB room L z, I6 x.k := fun x hx => by
  unfold goneB at hx
  split at hx
  · unfold Lulnn.goneX at hx
    have h1 := List.mem_of_mem_drop (List.mem_reverse.1 hx)
    exact (h.ok x (dropL_sub.subset h1)).k
  · cases hx
theorem getL_sub' (L : List Rx) (k now : Int) : ∀ x ∈ getL L k now, x ∈ L := by
  intro x hx
  unfold getL at hx
  split at hx
  · exact hx
  · rename_i y hf
    split at hx
    · rcases List.mem_cons.1 hx with e | e
      · rw [e]; exact (findL_some hf).1
      · exact dropL_sub.subset e
    · exact dropL_sub.subset hx
theorem putB_len' (room : Int) (L : List Rx) (z : Oz) : (putB room L z).length ≤ L.length + 1 := by
  unfold putB
  split
  · exact putL_len room L z.rx
  · omega
end Go.Proofs.YthjeeianlgkaaaaDoor

