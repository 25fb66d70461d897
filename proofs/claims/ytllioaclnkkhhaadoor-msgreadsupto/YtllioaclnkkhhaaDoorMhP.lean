/-
  culvertlaw27.MsgPieces
-/
import Derived.Test.YtllioaclnkkhhaaDoorMhC
import Derived.Test.YtllioaclnkkhhaaDoorOpenU
namespace Go.Proofs.YtllioaclnkkhhaaDoor
open Go.ChangeShapes Go.WideShapes Go.RowKit

/-- two lists of numbers in a struct -/
structure CutsArg (w : World) (a b : Value) (za zb : List Int) : Prop where
  a : Holds .i64 w a za
  b : Holds .i64 w b zb
  la : za.length ≤ 1048576
  lb : zb.length ≤ 1048576
theorem Holds.len {k : IntKind} {w : World} {v : Value} {ns : List Int} (h : Holds k w v ns) : ∃ q c, v = .slice q ns.length c := by
  obtain ⟨a, l, c, rfl, hl, _⟩ := h
  exact ⟨a, c, by rw [hl]⟩
theorem Holds.later27 {k : IntKind} {w w' : World} {v : Value} {ns : List Int} (h : Holds k w v ns) (hb : Below w.heap.size w w') : Holds k w' v ns := by
  obtain ⟨a, l, c, rfl, hl, hc⟩ := h
  refine ⟨a, l, c, rfl, hl, fun i hi => ?_⟩
  obtain ⟨x, hx, hce⟩ := hc i hi
  exact ⟨x, hx, by rw [hb.cell (World.block_lt_of_cell? w _ hce)]; exact hce⟩
structure CutsZ where
  a : Value
  b : Value
  za : List Int
  zb : List Int
def CutsArgU (w : World) (v : Value) (z : CutsZ) : Prop := v = .agg #[z.a, z.b] ∧ CutsArg w z.a z.b z.za z.zb
section
variable {H : Type} {enc : TypeId × Value → H} {w : World} {base : Nat} {spare : Nat → Bool} {held : Bool}
theorem array2 {α : Type} {cs : Array α} (h : cs.size = 2) : ∃ c0 c1, cs = #[c0, c1] := by
  obtain ⟨l⟩ := cs
  match l, h with
  | [c0, c1], _ => exact ⟨c0, c1, rfl⟩
theorem wide2 {P : Program} {r : Reach} {b0 : Nat} {t : TypeId} {f0 f1 : Field} {v : Value} (hs : P.underlying t = some (.struct #[f0, f1])) (hC : P.cellsOf t = 2) (hv : Value.okWide P w r b0 t v) : ∃ c0 c1, v = .agg #[c0, c1] := by
  obtain ⟨cs, rfl, hsz⟩ := okWide_struct hs hv
  obtain ⟨c0, c1, rfl⟩ := array2 (hsz.trans hC)
  exact ⟨c0, c1, rfl⟩
set_option maxRecDepth 100000 in
theorem cuts27_openU {r : Reach} {b0 : Nat} {v : Value} {d : DataW H} {p : List MemPlace} (hv : Value.okWide Tryd.prog w r b0 51 v)
    (h : DataW.Trod enc Tryd.prog w base spare held 51 v d p) (hk : Rows.uptoBulk d ≤ 1048576) : ∃ z, CutsArgU w v z := by
  have hCB : Tryd.prog.cellsOf 49 = 1 := by kernel_rfl
  have hC : Tryd.prog.cellsOf 51 = 2 := by kernel_rfl
  have hh := wide2 (P := Tryd.prog) (w := w) (r := r) (b0 := b0) (t := 51) (v := v) Tryd.underlying51 hC
  have h2 := hh hv
  clear hh hC hv
  obtain ⟨c0, c1, hv⟩ := h2
  subst hv
  obtain ⟨fuel, hf⟩ := h
  obtain ⟨y0, y1, n, hx, _, t0, t1⟩ := trod_struct2 Tryd.underlying51 hf
  simp only [hCB, Value.cells, List.drop_zero, List.drop_succ_cons, List.take_succ_cons, List.take_zero] at t0 t1
  simp only [Prod.mk.injEq] at hx
  rw [hx.1] at hk
  simp only [Rows.uptoBulk, Rows.uptoBulkAll] at hk
  obtain ⟨za, ha, la⟩ := ints_of_trod t0 (by omega)
  obtain ⟨zb, hb, lb⟩ := ints_of_trod t1 (by omega)
  exact ⟨⟨c0, c1, za, zb⟩, rfl, ha, hb, la, lb⟩
end
section
variable {A : Nat → Addr} {w w' W w0 : World} {own own' : Nat → Nat} {p p' most : Nat} {bs : List Int} {v fv ev : Value} {O : MOut}
theorem gives27_bad {most : Int} (hs : Sents 86 codeVars A w) (h : most < 0 ∨ 1048576 < most) (q : Option Addr) (L c : Nat) (cq : Option Addr) (K cc : Nat) :
    Calls Tryd.prog 22 #[.int .i64 most, .slice q L c, .slice cq K cc] w fun e w' => e = .returned (.tuple #[.slice none 0 0, .iface 86 (.pointer (some (A 1))), .pointer none]) ∧ Aside (Keeps Nowhere w w') := by
  have N := Aside.mk (newM_no (A := A) h hs)
  clear hs h
  go_enter Tryd.func22, Tryd.ntmps22
  go_wp2_with (first | (go_at_call 9; refine N.it.mono ?_; clear N; rintro e w1 ⟨rfl, K1⟩) | fail)
  go_returns
  exact ⟨rfl, K1⟩
/-- what was gathered stays -/
theorem Gi.later (h : Gi A w0 own W p most O fv) (hb : Below W.heap.size W w') : Gi A w0 own w' p most O fv := h.quiet (Keeps.ofBelow hb)
theorem gi_same {X : List (List Int)} {vb : Value} (h : Gi A w0 own W p most O fv) (hb : RdL own' p' W vb X) (h1 : ∀ x ∈ O.ms, AreBytes x) (h2 : ∀ x ∈ X, AreBytes x) (l1 : O.ms.length ≤ 16777216) (l2 : X.length ≤ 16777216) :
    Calls Tryd.prog 17 #[fv, vb] W fun e w' => e = .returned (.bool (decide (O.ms = X))) ∧ ∃ m, w' = W.drewN m := same27 (h.row.rdl (own' := fun _ => 9) (d' := 9) (fun _ _ => rfl)) hb h1 h2 l1 l2
theorem parse_bytes {F : List Int} (hb : AreBytes F) : ∀ x ∈ (parseM most F).ms, AreBytes x := by
  induction hn : F.length using Nat.strongRecOn generalizing F with
  | _ n ih =>
    cases hd : hdM most F with
    | none => rw [parseM_none hd]; simp
    | some x =>
      cases x with
      | none => rw [parseM_bad hd]; simp
      | some x =>
        obtain ⟨m, k⟩ := x
        have hp := hdM_pos hd
        by_cases hl : F.length < k + m
        · rw [parseM_part hd hl]; simp
        · rw [parseM_more hd (by omega)]
          intro y hy
          rcases List.mem_cons.1 hy with rfl | hy
          · exact fun z hz => hb z (List.mem_of_mem_drop (List.mem_of_mem_take hz))
          · exact ih (F.drop (k + m)).length (by simp; omega) (fun z hz => hb z (List.mem_of_mem_drop hz)) rfl y hy
/-- the calls that only look, in every world that only the tape parts from this one -/
structure Looks (A : Nat → Addr) (W : World) (p : Nat) (ev : Value) (k : Int) (n : Nat) (dn : Int) : Prop where
  code : ∀ W', Keeps Nowhere W W' → Calls Tryd.prog 10 #[ev] W' fun e w' => e = .returned (.int .i64 k) ∧ w' = W'
  held : ∀ W', Keeps Nowhere W W' → Calls Tryd.prog 18 #[ptr p] W' fun e w' => e = .returned (.int .i64 n) ∧ ∃ m, w' = W'.drewN m
  done : ∀ W', Keeps Nowhere W W' → Calls Tryd.prog 20 #[ptr p] W' fun e w' => ∃ ev, e = .returned ev ∧ Hid (Coded A ev dn) ∧ ∃ m, w' = W'.drewN m
theorem Gi.looks (h : Gi A w0 own W p most O fv) (C : Hid (Coded A ev (codeM O))) : Looks A W p ev (codeM O) O.rest.length (doneC O.rest O.dead) :=
  ⟨fun _ k => code_of (h.quiet k).L.g.sents C.out, fun _ k => heldM (h.quiet k).L.r, fun _ k => doneR (h.quiet k).L.r (h.quiet k).L.g.sents⟩
set_option maxHeartbeats 2000000 in
theorem msgPieces_good (hm : most ≤ 1048576) (v : Value) (bs : List Int) (ca cb : Value) (za zb : List Int) (hs : Sents 86 codeVars A w) (R : Rd w v bs) (hb : AreBytes bs) (hL : bs.length ≤ 1048576) (C : CutsArg w ca cb za zb) :
    Calls Tryd.prog 6 #[.int .i64 most, v, .agg #[ca, cb]] w fun e w' => e = .returned (.bool true) ∧ Below w.heap.size w w' := by
  obtain ⟨q, c, rfl⟩ := R.shape
  obtain ⟨qa, c1, rfl⟩ := C.a.len
  obtain ⟨qb, c2, rfl⟩ := C.b.len
  obtain ⟨L, hLe⟩ : ∃ L, bs.length = L := ⟨_, rfl⟩
  obtain ⟨La, hLa⟩ : ∃ L, za.length = L := ⟨_, rfl⟩
  obtain ⟨Lb, hLb⟩ : ∃ L, zb.length = L := ⟨_, rfl⟩
  have hla := C.la
  have hlb := C.lb
  have Ca := C.a
  have Cb := C.b
  rw [hLa] at hla Ca
  rw [hLb] at hlb Cb
  rw [hLe] at R
  have BA : Below w.heap.size w (w.alloc (.cells #[.slice qa La c1, .slice qb Lb c2] 51)) := ((Keeps.refl Nowhere w).alloc _).bel
  have F := Aside.mk (fixed27 (hs.later BA))
  have GA := Aside.mk (fun W (hW : Below w.heap.size w W) => gives27 (hs.later hW) hm q L c (R.later hW) hb (by omega) qa La c1 (Ca.later27 hW) hla)
  have GB := Aside.mk (fun W (hW : Below w.heap.size w W) => gives27 (hs.later hW) hm q L c (R.later hW) hb (by omega) qb Lb c2 (Cb.later27 hW) hlb)
  obtain ⟨O, hO⟩ : ∃ O, parseM most bs = O := ⟨_, rfl⟩
  have OB : Aside ((∀ x ∈ O.ms, AreBytes x) ∧ O.ms.length ≤ 16777216) := ⟨by rw [← hO]; exact parse_bytes hb, by rw [← hO]; have := parse_cnt most bs; omega⟩
  have HO := Aside.mk hO
  have BA := Aside.mk BA
  rw [hLe, hLa, hLb]
  clear hs R hb hL C Ca Cb hla hlb hLe hLa hLb hm hO
  go_enter Tryd.func6, Tryd.ntmps6
  go_wp2_with (go_at_call 13; refine F.it.mono ?_; rintro e w1 ⟨rfl, b1⟩; have B1 : Aside (Below w.heap.size w w1) := ⟨BA.it.trans (b1.it.mono BA.it.size)⟩; have x0 : w1.cell? ⟨w.heap.size, 0, none⟩ = some (.slice qa La c1) := (by rw [b1.it.cell (by simp)]; simp); have x1 : w1.cell? ⟨w.heap.size, 1, none⟩ = some (.slice qb Lb c2) := (by rw [b1.it.cell (by simp)]; simp); clear b1)
  go_upto_region 4 with (first | (go_at_call 22; refine (GA.it w1 B1.it).mono ?_; rintro e w2 ⟨fqa, fla, fca, eva, pa, owa, rfl, CA, XA⟩; have B2 : Aside (Below w.heap.size w w2) := ⟨B1.it.trans (XA.it.1.mono B1.it.size)⟩; have y1 : w2.cell? ⟨w.heap.size, 1, none⟩ = some (.slice qb Lb c2) := (by rw [XA.it.1.cell (World.block_lt_of_cell? w1 _ x1)]; exact x1)) | fail)
  go_upto_region 5 with (first | (go_at_call 22; refine (GB.it w2 B2.it).mono ?_; rintro e w3 ⟨fqb, flb, fcb, evb, pb, owb, rfl, CB, XB⟩; have B3 : Aside (Below w.heap.size w w3) := ⟨B2.it.trans (XB.it.1.mono B2.it.size)⟩) | fail)
  have GA3 := XA.it.2.later XB.it.1
  have S3 := Aside.mk GA3.L.g.sents
  rw [HO.it] at CA CB XA XB GA3
  have LA := Aside.mk (GA3.looks CA)
  have LB := Aside.mk (XB.it.2.looks CB)
  have SM := Aside.mk (gi_same GA3 (XB.it.2.row.rdl (own' := fun _ => 9) (d' := 9) (fun _ _ => rfl)) OB.it.1 OB.it.1 OB.it.2 OB.it.2)
  have SM : Aside (Calls Tryd.prog 17 #[.slice fqa fla fca, .slice fqb flb fcb] w3 fun e w' => e = .returned (.bool true) ∧ ∃ m, w' = w3.drewN m) := ⟨by have := SM.it; simpa using this⟩
  obtain ⟨kc, hkc⟩ : ∃ kc, codeM O = kc := ⟨_, rfl⟩
  obtain ⟨nr, hnr⟩ : ∃ nr, O.rest.length = nr := ⟨_, rfl⟩
  obtain ⟨dn, hdn⟩ : ∃ dn, doneC O.rest O.dead = dn := ⟨_, rfl⟩
  rw [hkc, hnr, hdn] at LA LB
  clear CA CB XA XB GA3 hkc hnr hdn GA GB F x0 x1 y1 HO OB BA B1 B2
  have e0 : (kc == kc) = true := by simp
  have e1 : (nr == nr) = true := by simp
  have e2 : (dn == dn) = true := by simp
  go_wp2_with (first
    | (go_at_call 17; refine SM.it.mono ?_; clear SM; rintro e w4 ⟨rfl, m4, rfl⟩)
    | (go_at_call_of 10 eva; refine (LA.it.code _ (by first | exact Keeps.refl _ _ | exact (Keeps.refl _ _).drewN _)).mono ?_; rintro e w5 ⟨rfl, hw5⟩; rw [hw5]; clear hw5)
    | (go_at_call_of 10 evb; refine (LB.it.code _ (by first | exact Keeps.refl _ _ | exact (Keeps.refl _ _).drewN _)).mono ?_; rintro e w6 ⟨rfl, hw6⟩; rw [hw6]; clear hw6)
    | (go_at_call_of 18 (ptr pa); refine (LA.it.held _ (by first | exact Keeps.refl _ _ | exact (Keeps.refl _ _).drewN _)).mono ?_; rintro e w7 ⟨rfl, m7, rfl⟩)
    | (go_at_call_of 18 (ptr pb); refine (LB.it.held _ (by first | exact Keeps.refl _ _ | exact (Keeps.refl _ _).drewN _)).mono ?_; rintro e w8 ⟨rfl, m8, rfl⟩)
    | (go_at_call_of 20 (ptr pa); refine (LA.it.done _ (by first | exact Keeps.refl _ _ | exact (Keeps.refl _ _).drewN _)).mono ?_; rintro e w9 ⟨ev9, rfl, C9, m9, rfl⟩; have CD9 := Aside.mk (fun W' (k : Keeps Nowhere w3 W') => code_of (S3.it.later k.bel) C9.out))
    | (go_at_call_of 10 ev9; refine (CD9.it _ (by first | exact Keeps.refl _ _ | exact (Keeps.refl _ _).drewN _)).mono ?_; rintro e w10 ⟨rfl, hw10⟩; rw [hw10]; clear hw10)
    | (go_at_call_of 20 (ptr pb); refine (LB.it.done _ (by first | exact Keeps.refl _ _ | exact (Keeps.refl _ _).drewN _)).mono ?_; rintro e w11 ⟨ev11, rfl, C11, m11, rfl⟩; have CD11 := Aside.mk (fun W' (k : Keeps Nowhere w3 W') => code_of (S3.it.later k.bel) C11.out))
    | (go_at_call_of 10 ev11; refine (CD11.it _ (by first | exact Keeps.refl _ _ | exact (Keeps.refl _ _).drewN _)).mono ?_; rintro e w12 ⟨rfl, hw12⟩; rw [hw12]; clear hw12)
    | fail)
  go_ret
  exact ⟨by simp, B3.it.trans (((Keeps.refl Nowhere w3).drewN _).bel.mono B3.it.size)⟩
set_option maxHeartbeats 2000000 in
theorem msgPieces_bad {most : Int} (h : most < 0 ∨ 1048576 < most) (v : Value) (bs : List Int) (ca cb : Value) (za zb : List Int) (hs : Sents 86 codeVars A w) (R : Rd w v bs) (C : CutsArg w ca cb za zb) :
    Calls Tryd.prog 6 #[.int .i64 most, v, .agg #[ca, cb]] w fun e w' => e = .returned (.bool true) ∧ Below w.heap.size w w' := by
  obtain ⟨q, c, rfl⟩ := R.shape
  obtain ⟨qa, c1, rfl⟩ := C.a.len
  obtain ⟨qb, c2, rfl⟩ := C.b.len
  generalize bs.length = L
  generalize za.length = La
  generalize zb.length = Lb
  have BA : Below w.heap.size w (w.alloc (.cells #[.slice qa La c1, .slice qb Lb c2] 51)) := ((Keeps.refl Nowhere w).alloc _).bel
  have F := Aside.mk (fixed27 (hs.later BA))
  have GA := Aside.mk (fun W (hW : Below w.heap.size w W) q L c x y z => gives27_bad (hs.later hW) h q L c x y z)
  have BA := Aside.mk BA
  have hd : (decide (most < 0) || decide (1048576 < most)) = true := by simp; exact h
  clear hs R C
  rcases h with h | h
  · have h1 : decide (most < 0) = true := decide_eq_true h
    clear hd
    go_enter Tryd.func6, Tryd.ntmps6
    go_wp2_with (go_at_call 13; refine F.it.mono ?_; rintro e w1 ⟨rfl, b1⟩; have B1 : Aside (Below w.heap.size w w1) := ⟨BA.it.trans (b1.it.mono BA.it.size)⟩; have x0 : w1.cell? ⟨w.heap.size, 0, none⟩ = some (.slice qa La c1) := (by rw [b1.it.cell (by simp)]; simp); have x1 : w1.cell? ⟨w.heap.size, 1, none⟩ = some (.slice qb Lb c2) := (by rw [b1.it.cell (by simp)]; simp); clear b1)
    go_upto_region 4 with (first | (go_at_call 22; refine (GA.it w1 B1.it _ _ _ _ _ _).mono ?_; rintro e w2 ⟨rfl, k2⟩; have B2 : Aside (Below w.heap.size w w2) := ⟨B1.it.trans (k2.it.bel.mono B1.it.size)⟩; have y1 : w2.cell? ⟨w.heap.size, 1, none⟩ = some (.slice qb Lb c2) := (by rw [k2.it.bel.cell (World.block_lt_of_cell? w1 _ x1)]; exact x1)) | fail)
    go_wp2_with (first | (go_at_call 22; refine (GA.it w2 B2.it _ _ _ _ _ _).mono ?_; rintro e w3 ⟨rfl, k3⟩; have B3 : Aside (Below w.heap.size w w3) := ⟨B2.it.trans (k3.it.bel.mono B2.it.size)⟩) | fail)
    go_ret
    exact ⟨by simp, B3.it⟩
  · have h0 : ¬ most < 0 := by omega
    clear hd
    go_enter Tryd.func6, Tryd.ntmps6
    go_wp2_with (go_at_call 13; refine F.it.mono ?_; rintro e w1 ⟨rfl, b1⟩; have B1 : Aside (Below w.heap.size w w1) := ⟨BA.it.trans (b1.it.mono BA.it.size)⟩; have x0 : w1.cell? ⟨w.heap.size, 0, none⟩ = some (.slice qa La c1) := (by rw [b1.it.cell (by simp)]; simp); have x1 : w1.cell? ⟨w.heap.size, 1, none⟩ = some (.slice qb Lb c2) := (by rw [b1.it.cell (by simp)]; simp); clear b1)
    go_upto_region 4 with (first | (go_at_call 22; refine (GA.it w1 B1.it _ _ _ _ _ _).mono ?_; rintro e w2 ⟨rfl, k2⟩; have B2 : Aside (Below w.heap.size w w2) := ⟨B1.it.trans (k2.it.bel.mono B1.it.size)⟩; have y1 : w2.cell? ⟨w.heap.size, 1, none⟩ = some (.slice qb Lb c2) := (by rw [k2.it.bel.cell (World.block_lt_of_cell? w1 _ x1)]; exact x1)) | fail)
    go_wp2_with (first | (go_at_call 22; refine (GA.it w2 B2.it _ _ _ _ _ _).mono ?_; rintro e w3 ⟨rfl, k3⟩; have B3 : Aside (Below w.heap.size w w3) := ⟨B2.it.trans (k3.it.bel.mono B2.it.size)⟩) | fail)
    go_ret
    exact ⟨by simp, B3.it⟩
theorem msgPieces_walkU (most : Int) (v : Value) (bs : List Int) (c : Value) (z : CutsZ) (w : World) (hs : Sents 86 codeVars A w) (hz : BytesArgU w v bs) (hc : CutsArgU w c z) :
    Calls Tryd.prog 6 #[.int .i64 most, v, c] w fun e w' => e = .returned (.bool true) ∧ Below w.heap.size w w' := by
  obtain ⟨rfl, hC⟩ := hc
  by_cases h : 0 ≤ most ∧ most ≤ 1048576
  · obtain ⟨n, rfl⟩ := Int.eq_ofNat_of_zero_le h.1
    exact msgPieces_good (by omega) v bs z.a z.b z.za z.zb hs hz.1 hz.2.1 hz.2.2 hC
  · exact msgPieces_bad (by omega) v bs z.a z.b z.za z.zb hs hz.1 hC
end
end Go.Proofs.YtllioaclnkkhhaaDoor
