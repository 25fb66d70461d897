/-
  FrameOwn: the walk.
-/
import Derived.Test.YtnifiagkiphjfaaDoorFrameH
import Derived.Test.YtnifiagkiphjfaaDoorFrameG
import Derived.Test.YtnifiagkiphjfaaDoorFrameFlags
import Derived.Test.YtnifiagkiphjfaaDoorApartC
import Derived.Test.YtnifiagkiphjfaaDoorOpenF
namespace Go.Proofs.YtnifiagkiphjfaaDoor
open Go.RowKit

theorem FB.ofCells {w : World} {p : Nat} {v t f s l : Int} {d : Value} (h : Cells w p 34 [.int .u8 v, .int .u8 t, .int .u16 f, .int .u32 s, .int .u32 l, d]) : FB p v t f s l d w :=
  ⟨⟨h.cell 0, h.cell 1, h.cell 2, h.cell 3, h.cell 4⟩, h.cell 5⟩
theorem enc_bytes {v t f s l : Int} (hv : 0 ≤ v ∧ v ≤ 255) (ht : 0 ≤ t ∧ t ≤ 255) (hf : 0 ≤ f ∧ f ≤ 65535) (hs : 0 ≤ s ∧ s ≤ 4294967295) (hl : 0 ≤ l ∧ l ≤ 4294967295) : AreBytes (enc v t f s l) := by
  intro n hn
  simp only [enc, List.mem_append, List.mem_cons, List.not_mem_nil, or_false] at hn
  rcases hn with (((rfl | rfl) | h) | h) | h
  · exact hv
  · exact ht
  · exact be2_bytes f hf.1 hf.2 n h
  · exact be4_bytes s hs.1 hs.2 n h
  · exact be4_bytes l hl.1 hl.2 n h
theorem AreBytes.append {a b : List Int} (ha : AreBytes a) (hb : AreBytes b) : AreBytes (a ++ b) := fun n hn => by
  rcases List.mem_append.1 hn with h | h
  · exact ha n h
  · exact hb n h
/-- the front of a row of one's own -/
theorem OwnB.front {B g l c : Nat} {w : World} {ns : List Int} (h : OwnB B w (.slice (some ⟨g, 0, none⟩) l c) ns) (k : Nat) (hk : k ≤ ns.length) : OwnB B w (.slice (some ⟨g, 0, none⟩) k c) (ns.take k) := by
  have hl : (ns.take k).length = k := by simp; omega
  rcases id h.2 with ⟨e, _⟩ | ⟨g', cap, cur, e, hb, hg, hn, hm, hs, ht⟩
  · cases e
  · injection e with e1 e2 e3
    injection e1 with e1
    injection e1 with e1
    subst e1 e2 e3
    refine ⟨by rw [bv_length, Nat.mul_one], .inr ⟨g, c, cur, by rw [hl], hb, hg, by omega, hm, hs, ?_⟩⟩
    rw [hl, Nat.mul_one]
    rw [Nat.mul_one] at ht
    have : bv (ns.take k) = (bv ns).take k := by simp [bv, List.map_take]
    rw [this, ← ht, List.take_take, Nat.min_eq_left hk]

/-- Apart of five lists -/
theorem apart5 (B : Nat) (w : World) (own : Nat → Nat) (v1 v2 v3 v4 v5 : Value) (n1 n2 n3 n4 n5 : List Int) (hB : B ≤ w.heap.size) (h0 : own w.heap.size = 0)
    (h1 : OwnB B w v1 n1) (h2 : OwnB B w v2 n2) (h3 : OwnB B w v3 n3) (h4 : OwnB B w v4 n4) (h5 : OwnB B w v5 n5) (m1 : Mine own 1 v1) (m2 : Mine own 2 v2) (m3 : Mine own 3 v3) (m4 : Mine own 4 v4) (m5 : Mine own 5 v5)
    (l1 : n1.length ≤ 140737488355000) (l2 : n2.length ≤ 140737488355000) (l3 : n3.length ≤ 140737488355000) (l4 : n4.length ≤ 140737488355000) (l5 : n5.length ≤ 140737488355000) :
    Calls Tryd.prog 24 #[.slice (some ⟨w.heap.size, 0, none⟩) 5 5] (w.alloc (.cells #[v1, v2, v3, v4, v5] 32)) fun e w' => e = .returned (.bool true) ∧ Below B w w' := by
  have hb := (Below.refl w.heap.size w).alloc (Nat.le_refl _) (.cells #[v1, v2, v3, v4, v5] 32)
  refine (apart_walk B (w.alloc (.cells #[v1, v2, v3, v4, v5] 32)) own w.heap.size 5 [v1, v2, v3, v4, v5] (fun j => ([n1, n2, n3, n4, n5] : List (List Int)).getD j []) (Nat.le_trans hB hb.size) (Cells.new w 32 [v1, v2, v3, v4, v5]) h0 (by show 5 ≤ 1000; omega) (Nat.le_refl _) ?_).mono ?_
  · intro j v hv
    match j, hv with
    | 0, hv => injection hv with e; subst e; exact ⟨h1.later hb, m1, l1⟩
    | 1, hv => injection hv with e; subst e; exact ⟨h2.later hb, m2, l2⟩
    | 2, hv => injection hv with e; subst e; exact ⟨h3.later hb, m3, l3⟩
    | 3, hv => injection hv with e; subst e; exact ⟨h4.later hb, m4, l4⟩
    | 4, hv => injection hv with e; subst e; exact ⟨h5.later hb, m5, l5⟩
    | j + 5, hv => cases hv
  · rintro e w' ⟨rfl, hbe⟩
    exact ⟨rfl, (hb.mono hB).trans hbe⟩

/-- the law's world: both boxes, the full list and the payload -/
structure LawAt (A : Nat → Addr) (w : World) (p q : Nat) (v f s : Int) (ns : List Int) (d fn full : Value) (W : World) : Prop where
  F : FAt A w p v 0 f s ns.length d ns W
  Q : FB q v 0 f s ns.length fn W
  O : OwnB w.heap.size W full (ns ++ [1, 2, 3])
  N : OwnB w.heap.size W fn ns
section
variable {A : Nat → Addr} {w : World} {p q : Nat} {v f s : Int} {ns : List Int} {d fn full : Value}
theorem LawAt.later {W W' : World} (h : LawAt A w p q v f s ns d fn full W) (hb : Below W.heap.size W W') : LawAt A w p q v f s ns d fn full W' := ⟨h.F.later hb, h.Q.later hb, h.O.later hb, h.N.later hb⟩
def Span (W w' : World) (x : Value) : Prop := ∀ b, x.ownBlock = some b → W.heap.size ≤ b ∧ b < w'.heap.size
theorem bytes_l (hn : ns.length ≤ 1048576) (hf : 0 ≤ f ∧ f ≤ 65535) (hss : 0 ≤ s ∧ s ≤ 4294967295) (W : World) (h : Aside (LawAt A w p q v f s ns d fn full W)) :
    Calls Tryd.prog 20 #[frm v 0 f s ns.length fn] W fun e w' => ∃ x, e = .returned (.tuple #[x, .nilIface]) ∧ Aside (OwnB w.heap.size w' x (enc v 0 f s ns.length ++ ns)) ∧ Aside (Span W w' x) ∧ Aside (LawAt A w p q v f s ns d fn full w') ∧ Aside (Below W.heap.size W w') := by
  refine (bytes_any v 0 f s ns.length fn ns W h.it.F.sS h.it.N.rd (by omega) hf.1 hf.2 hss.1 hss.2 (by omega) (by omega)).mono ?_
  rintro e w' ⟨x, ev, rfl, V, O, hb⟩
  have hz : (ns.length : Int) = szH 0 ns.length := rfl
  have e1 : bE 0 ns.length ns.length = 0 := if_pos hz
  have e2 : bO v 0 f s ns.length ns = enc v 0 f s ns.length ++ ns := if_pos hz
  have V := V.it
  have O := O.it
  rw [e1] at V
  rw [e2] at O
  rcases coded_zero V with ⟨_, rfl⟩ | ⟨h0, _⟩
  · exact ⟨x, rfl, ⟨O.mono h.it.F.bB.size⟩, ⟨fun b hb' => ⟨O.base b hb', O.lt b hb'⟩⟩, ⟨h.it.later hb⟩, ⟨hb⟩⟩
  · exact absurd rfl h0
theorem encode_l (hn : ns.length ≤ 1048576) (hf : 0 ≤ f ∧ f ≤ 65535) (hss : 0 ≤ s ∧ s ≤ 4294967295) (W : World) (h : Aside (LawAt A w p q v f s ns d fn full W)) :
    Calls Tryd.prog 14 #[hdr v 0 f s ns.length] W fun e w' => ∃ x, e = .returned x ∧ Aside (OwnB w.heap.size w' x (enc v 0 f s ns.length)) ∧ Aside (Span W w' x) ∧ Aside (LawAt A w p q v f s ns d fn full w') ∧ Aside (Below W.heap.size W w') := by
  refine (encode_any v 0 f s ns.length W hf.1 hf.2 hss.1 hss.2 (by omega) (by omega)).mono ?_
  rintro e w' ⟨x, rfl, O, hb⟩
  exact ⟨x, rfl, ⟨O.it.mono h.it.F.bB.size⟩, ⟨fun b hb' => ⟨O.it.base b hb', O.it.lt b hb'⟩⟩, ⟨h.it.later hb⟩, ⟨hb⟩⟩
theorem LawAt.cells {W : World} (h : Aside (LawAt A w p q v f s ns d fn full W)) :
    W.cell? ⟨p, 0, none⟩ = some (.int .u8 v) ∧ W.cell? ⟨p, 1, none⟩ = some (.int .u8 0) ∧ W.cell? ⟨p, 2, none⟩ = some (.int .u16 f) ∧ W.cell? ⟨p, 3, none⟩ = some (.int .u32 s) ∧ W.cell? ⟨p, 4, none⟩ = some (.int .u32 ns.length) ∧ W.cell? ⟨p, 5, none⟩ = some d :=
  ⟨h.it.F.fF.1.1, h.it.F.fF.1.2.1, h.it.F.fF.1.2.2.1, h.it.F.fF.1.2.2.2.1, h.it.F.fF.1.2.2.2.2, h.it.F.fF.2⟩
end
set_option maxRecDepth 20000 in
set_option maxHeartbeats 4000000 in
theorem frameOwn_law {A : Nat → Addr} (v t f s l : Int) (d : Value) (ns : List Int) (w : World) (hs : At4 A w w) (hr : Rd w d ns) (hbt : AreBytes ns) (hn : ns.length ≤ 1048576)
    (hv : 0 ≤ v ∧ v ≤ 255) (hf : 0 ≤ f ∧ f ≤ 65535) (hss : 0 ≤ s ∧ s ≤ 4294967295) :
    Calls Tryd.prog 8 #[frm v t f s l d] w fun e w' => e = .returned (.bool true) ∧ Below w.heap.size w w' := by
  obtain ⟨a, c, hd⟩ := hr.shape
  subst hd
  have AW := Aside.mk (awake4 (w.alloc (fbox v t f s l (.slice a ns.length c))) (hs.s.later (alloc_below _ _)) (hs.l.later (alloc_below _ _)))
  have C0 := Aside.mk (Cells.new w 34 [.int .u8 v, .int .u8 t, .int .u16 f, .int .u32 s, .int .u32 l, .slice a ns.length c])
  have S0 := Aside.mk hs.s
  have R0 := Aside.mk hr
  have BT := Aside.mk hbt
  have hn' : (ns.length : Int) ≤ 1048576 := by omega
  have hn0 : (0 : Int) ≤ (ns.length : Int) := by omega
  clear hs hr hbt
  go_enter Tryd.func8, Tryd.ntmps8
  go_wp2_with fail
  refine AW.it.mono ?_
  rintro e w1 ⟨rfl, K1⟩
  have C1 := Aside.mk (C0.it.later (Keeps.ofBelow (S := Nowhere) K1) (fun x => x))
  have B1 := Aside.mk ((alloc_below w (fbox v t f s l (.slice a ns.length c))).trans (K1.mono (by simp)))
  have c1 := C1.it.cell 1
  have c4 := C1.it.cell 4
  have c5 := C1.it.cell 5
  have f1 := C1.it.frozen 1
  have f4 := C1.it.frozen 4
  have C2 : Aside (Cells ((w1.setCell ⟨w.heap.size, 1, none⟩ (.int .u8 0)).setCell ⟨w.heap.size, 4, none⟩ (.int .u32 ns.length)) w.heap.size 34 [.int .u8 v, .int .u8 0, .int .u16 f, .int .u32 s, .int .u32 ns.length, .slice a ns.length c]) := ⟨(C1.it.setCell 1 _).setCell 4 _⟩
  have B2 : Aside (Below w.heap.size w ((w1.setCell ⟨w.heap.size, 1, none⟩ (.int .u8 0)).setCell ⟨w.heap.size, 4, none⟩ (.int .u32 ns.length))) := ⟨(B1.it.setCell (Nat.le_refl _) _).setCell (Nat.le_refl _) _⟩
  have hsz : ((w1.setCell ⟨w.heap.size, 1, none⟩ (.int .u8 0)).setCell ⟨w.heap.size, 4, none⟩ (.int .u32 ns.length)).heap.size = w1.heap.size := by simp
  have O2 : Aside (OwnB w1.heap.size (((w1.setCell ⟨w.heap.size, 1, none⟩ (.int .u8 0)).setCell ⟨w.heap.size, 4, none⟩ (.int .u32 ns.length)).alloc (.cells #[] 5)) (.slice (some ⟨w1.heap.size, 0, none⟩) 0 0) []) := ⟨by have := own_new ((w1.setCell ⟨w.heap.size, 1, none⟩ (.int .u8 0)).setCell ⟨w.heap.size, 4, none⟩ (.int .u32 ns.length)) [] 0 rfl (Nat.le_refl _) (Nat.zero_le _); rwa [hsz] at this⟩
  have c5' := fun o => cell_alloc o (C2.it.cell 5)
  have R2 := Aside.mk ((R0.it.later B2.it).later (alloc_below ((w1.setCell ⟨w.heap.size, 1, none⟩ (.int .u8 0)).setCell ⟨w.heap.size, 4, none⟩ (.int .u32 ns.length)) (.cells #[] 5)))
  have SZ : Aside (((w1.setCell ⟨w.heap.size, 1, none⟩ (.int .u8 0)).setCell ⟨w.heap.size, 4, none⟩ (.int .u32 ns.length)).heap.size = w1.heap.size ∧ w1.heap.size ≤ (((w1.setCell ⟨w.heap.size, 1, none⟩ (.int .u8 0)).setCell ⟨w.heap.size, 4, none⟩ (.int .u32 ns.length)).alloc (.cells #[] 5)).heap.size) := ⟨hsz, by simp⟩
  clear K1 hsz
  go_wp2_with (first
    | (at_builtin; refine wpList_appendB rfl (.tmp 22) (.tmp 24) rfl w1.heap.size _ _ [] ns O2.it R2.it (by show 0 + ns.length ≤ _; omega) SZ.it.2 rfl rfl ?_; intro x3 w3 o3 k3
       have O3 := Aside.mk (o3.it.later (alloc_below w3 (.cells #[.int .u8 1, .int .u8 2, .int .u8 3] 5)))
       have R3 := Aside.mk (rd_newA w3 [1, 2, 3] 3 rfl)
       have Z3 : Aside (w1.heap.size ≤ (w3.alloc (.cells #[.int .u8 1, .int .u8 2, .int .u8 3] 5)).heap.size) := ⟨by have h1 := SZ.it.2; have h2 := k3.it.size; simp; omega⟩)
    | (at_builtin; refine wpList_appendB rfl (.tmp 25) (.tmp 26) rfl w1.heap.size _ _ ([] ++ ns) [1, 2, 3] O3.it R3.it (by show ns.length + 3 ≤ _; omega) Z3.it rfl rfl ?_; intro x4 w4 o4 k4
       have K4 : Aside (Below w1.heap.size ((w1.setCell ⟨w.heap.size, 1, none⟩ (.int .u8 0)).setCell ⟨w.heap.size, 4, none⟩ (.int .u32 ns.length)) w4) := ⟨((((Below.refl _ _).alloc (by have := SZ.it.1; omega) _).trans k3.it).alloc (Nat.le_trans SZ.it.2 k3.it.size) _).trans k4.it⟩
       obtain ⟨g, cg, hx4, _⟩ := o4.it.at (by simp)
       have e3 : (([] ++ ns) ++ [1, 2, 3] : List Int).length = ns.length + 3 := by simp
       rw [e3] at hx4
       subst hx4
       clear e3
       have s4 := run_bytesStr (P := Tryd.prog) w4 32 9 5 _ _ Tryd.underlying32 Tryd.underlying5 Tryd.underlying9 o4.it.holds))
  have hp1 : w.heap.size < w1.heap.size := C1.it.lt
  have C4 : Cells w4 w.heap.size 34 [.int .u8 v, .int .u8 0, .int .u16 f, .int .u32 s, .int .u32 ns.length, .slice a ns.length c] := (K4.it.block _ hp1).trans C2.it
  have B4 : Below w.heap.size w w4 := B2.it.trans (K4.it.mono (Nat.le_of_lt hp1))
  have G4 : Aside (FAt A w w.heap.size v 0 f s ns.length (.slice a ns.length c) ns w4.drew) := ⟨⟨S0.it.later B4.drew, B4.drew, FB.ofCells C4, R0.it.later B4.drew⟩⟩
  have G4a : ∀ o, Aside (FAt A w w.heap.size v 0 f s ns.length (.slice a ns.length c) ns (w4.alloc o).drew) := fun o => ⟨⟨S0.it.later (B4.trans ((alloc_below w4 o).mono B4.size)).drew, (B4.trans ((alloc_below w4 o).mono B4.size)).drew, (FB.ofCells C4).later (alloc_below w4 o).drew, R0.it.later (B4.trans ((alloc_below w4 o).mono B4.size)).drew⟩⟩
  obtain ⟨hgc, hgm⟩ : ns.length + 3 ≤ cg ∧ True := by
    rcases id o4.it.2 with ⟨e, _⟩ | ⟨g', cap, cur, e, _, _, h1, _⟩
    · cases e
    · injection e with _ e2 e3
      subst e3
      exact ⟨by simpa using h1, trivial⟩
  have hgc' : ((ns.length : Int)) ≤ (cg : Int) := by omega
  have OF : Aside (OwnB w1.heap.size w4 (.slice (some ⟨g, 0, none⟩) ns.length cg) ns) := ⟨by
    have h := o4.it.front ns.length (by simp)
    simpa using h⟩
  have O4 : Aside (OwnB w1.heap.size w4 (.slice (some ⟨g, 0, none⟩) (ns.length + 3) cg) (ns ++ [1, 2, 3])) := ⟨by simpa using o4.it⟩
  clear C4 B4 c1 c4 c5 f1 f4 c5' s4 hgm
  go_region_held_law (fun w' => w'.cell? ⟨w.heap.size, 0, none⟩ = some (.int .u8 v) ∧ w'.cell? ⟨w.heap.size, 1, none⟩ = some (.int .u8 0) ∧ w'.cell? ⟨w.heap.size, 2, none⟩ = some (.int .u16 f) ∧ w'.cell? ⟨w.heap.size, 3, none⟩ = some (.int .u32 s) ∧ w'.cell? ⟨w.heap.size, 4, none⟩ = some (.int .u32 ns.length) ∧ w'.cell? ⟨w.heap.size, 5, none⟩ = some (.slice a ns.length c))
    (first | exact FAt.cells (by assumption) | exact FAt.cells (G4a _)) (fail)
  have LA : Aside (LawAt A w w.heap.size w4.heap.size v f s ns (.slice a ns.length c) (.slice (some ⟨g, 0, none⟩) ns.length cg) (.slice (some ⟨g, 0, none⟩) (ns.length + 3) cg) (w4.alloc (fbox v 0 f s ns.length (.slice (some ⟨g, 0, none⟩) ns.length cg))).drew) :=
    ⟨⟨(G4a _).it, FB.new w4 v 0 f s ns.length _, (O4.it.mono (Nat.le_of_lt hp1)).later (alloc_below _ _).drew, (OF.it.mono (Nat.le_of_lt hp1)).later (alloc_below _ _).drew⟩⟩
  have LT : Aside (∀ b, (Value.slice (some ⟨g, 0, none⟩) ns.length cg).ownBlock = some b → b < (w4.alloc (fbox v 0 f s ns.length (.slice (some ⟨g, 0, none⟩) ns.length cg))).drew.heap.size) := ⟨LA.it.N.lt⟩
  obtain ⟨W5, hW5⟩ : ∃ W, W = (w4.alloc (fbox v 0 f s ns.length (.slice (some ⟨g, 0, none⟩) ns.length cg))).drew := ⟨_, rfl⟩
  rw [← hW5] at LA LT ⊢
  obtain ⟨q5, hq5⟩ : ∃ q, q = w4.heap.size := ⟨_, rfl⟩
  rw [← hq5] at LA ⊢
  clear hW5 hq5 G4 G4a OF O4 K4 k4 o4 C2 C1 R2 O2 B2 SZ hp1 AW C0
  have Y := Aside.mk (fun W h => bytes_l (A := A) (w := w) (p := w.heap.size) (q := q5) (v := v) (d := .slice a ns.length c) (fn := .slice (some ⟨g, 0, none⟩) ns.length cg) (full := .slice (some ⟨g, 0, none⟩) (ns.length + 3) cg) hn hf hss W h)
  have E := Aside.mk (fun W h => encode_l (A := A) (w := w) (p := w.heap.size) (q := q5) (v := v) (d := .slice a ns.length c) (fn := .slice (some ⟨g, 0, none⟩) ns.length cg) (full := .slice (some ⟨g, 0, none⟩) (ns.length + 3) cg) hn hf hss W h)
  have y0 := LA.it.Q.1.1
  have y1 := LA.it.Q.1.2.1
  have y2 := LA.it.Q.1.2.2.1
  have y3 := LA.it.Q.1.2.2.2.1
  have y4 := LA.it.Q.1.2.2.2.2
  have y5 := LA.it.Q.2
  go_wp2_with (first
    | (have _u := O6; clear _u; go_at_call 20; refine (Y.it _ L6).mono ?_; rintro e w8 ⟨x8, rfl, O8, P8, L8, K8⟩)
    | (go_at_call 20; refine (Y.it _ LA).mono ?_; rintro e w6 ⟨x6, rfl, O6, P6, L6, K6⟩; have y0 := L6.it.Q.1.1; have y1 := L6.it.Q.1.2.1; have y2 := L6.it.Q.1.2.2.1; have y3 := L6.it.Q.1.2.2.2.1; have y4 := L6.it.Q.1.2.2.2.2; have y5 := L6.it.Q.2))
  have L8d : Aside (LawAt A w w.heap.size q5 v f s ns (.slice a ns.length c) (.slice (some ⟨g, 0, none⟩) ns.length cg) (.slice (some ⟨g, 0, none⟩) (ns.length + 3) cg) w8.drew) := ⟨L8.it.later (Below.refl _ _).drew⟩
  go_region_held_law (fun w' => w'.cell? ⟨w.heap.size, 0, none⟩ = some (.int .u8 v) ∧ w'.cell? ⟨w.heap.size, 1, none⟩ = some (.int .u8 0) ∧ w'.cell? ⟨w.heap.size, 2, none⟩ = some (.int .u16 f) ∧ w'.cell? ⟨w.heap.size, 3, none⟩ = some (.int .u32 s) ∧ w'.cell? ⟨w.heap.size, 4, none⟩ = some (.int .u32 ns.length) ∧ w'.cell? ⟨w.heap.size, 5, none⟩ = some (.slice a ns.length c))
    (exact LawAt.cells (by assumption)) (first
    | (have _u := O10; clear _u; go_at_call 14; refine (E.it _ L10).mono ?_; rintro e w11 ⟨x11, rfl, O11, P11, L11, K11⟩)
    | (go_at_call 14; refine (E.it _ L8d).mono ?_; rintro e w10 ⟨x10, rfl, O10, P10, L10, K10⟩))
  have hz6 : (enc v 0 f s ns.length ++ ns).length = 12 + ns.length := by rw [List.length_append, enc_length]
  obtain ⟨p6, c6, hx6⟩ := O6.it.shape
  rw [hz6] at hx6
  subst hx6
  obtain ⟨p8, c8, hx8⟩ := O8.it.shape
  rw [hz6] at hx8
  subst hx8
  obtain ⟨p10, c10, hx10⟩ := O10.it.shape
  rw [enc_length] at hx10
  subst hx10
  obtain ⟨p11, c11, hx11⟩ := O11.it.shape
  rw [enc_length] at hx11
  subst hx11
  have M6 : Below w6.heap.size w6 w11 := (K8.it.trans ((((Below.refl w8.heap.size w8).drew).trans ((K10.it.mono (Nat.le_refl _)).trans (K11.it.mono K10.it.size))).mono K8.it.size))
  have M8 : Below w8.heap.size w8 w11 := ((Below.refl w8.heap.size w8).drew).trans ((K10.it.mono (Nat.le_refl _)).trans (K11.it.mono K10.it.size))
  have Q6 := Aside.mk (O6.it.later M6)
  have Q8 := Aside.mk (O8.it.later M8)
  have Q10 := Aside.mk (O10.it.later K11.it)
  have Q11 := O11
  have SZ : Aside (W5.heap.size ≤ w6.heap.size ∧ w6.heap.size ≤ w8.heap.size ∧ w8.heap.size ≤ w10.heap.size ∧ w10.heap.size ≤ w11.heap.size) := ⟨K6.it.size, K8.it.size, K10.it.size, K11.it.size⟩
  have D := Aside.mk (decode_any (A := A) _ _ w11 L11.it.F.sS Q6.it.rd ((enc_bytes hv ⟨by omega, by omega⟩ hf hss ⟨hn0, by omega⟩).append BT.it))
  clear M6 M8 O6 O8 O10 O11 K6 K8 K10 K11 hz6 y0 y1 y2 y3 y4 y5
  go_wp2_with (go_at_call 22; refine D.it.mono ?_; rintro e w12 ⟨ev, rfl, _, K12⟩
               have U6 := Aside.mk (Q6.it.later K12)
               have U8 := Aside.mk (Q8.it.later K12)
               have U10 := Aside.mk (Q10.it.later K12)
               have U11 := Aside.mk (Q11.it.later K12)
               have L12 := Aside.mk (L11.it.later K12)
               have Z12 := Aside.mk K12.size
               have s6 := run_bytesStr (P := Tryd.prog) w12 32 9 5 _ _ Tryd.underlying32 Tryd.underlying5 Tryd.underlying9 U6.it.holds
               have s8 := run_bytesStr (P := Tryd.prog) w12 32 9 5 _ _ Tryd.underlying32 Tryd.underlying5 Tryd.underlying9 U8.it.holds
               have s10 := run_bytesStr (P := Tryd.prog) w12 32 9 5 _ _ Tryd.underlying32 Tryd.underlying5 Tryd.underlying9 U10.it.holds
               have s11 := run_bytesStr (P := Tryd.prog) w12 32 9 5 _ _ Tryd.underlying32 Tryd.underlying5 Tryd.underlying9 U11.it.holds
               have sF := run_bytesStr (P := Tryd.prog) w12 32 9 5 _ _ Tryd.underlying32 Tryd.underlying5 Tryd.underlying9 L12.it.O.holds
               have z5 := L12.it.F.fF.2
               clear K12)
  have hsz := SZ.it
  have hz12 := Z12.it
  have hB := L12.it.F.bB.size
  have hz6 : (enc v 0 f s ns.length ++ ns).length = 12 + ns.length := by rw [List.length_append, enc_length]
  have w8d : w8.drew.heap.size = w8.heap.size := rfl
  refine (apart5 w.heap.size w12 (fun b => if b < W5.heap.size then 5 else if b < w6.heap.size then 1 else if b < w8.heap.size then 2 else if b < w10.heap.size then 3 else if b < w11.heap.size then 4 else 0) _ _ _ _ _ _ _ _ _ _ hB ?_ U6.it U8.it U10.it U11.it L12.it.N ?_ ?_ ?_ ?_ ?_ (by rw [hz6]; omega) (by rw [hz6]; omega) (by rw [enc_length]; omega) (by rw [enc_length]; omega) (by omega)).mono ?_
  · rw [if_neg (by omega), if_neg (by omega), if_neg (by omega), if_neg (by omega), if_neg (by omega)]
  · intro b hb
    have h := P6.it b hb
    dsimp only
    rw [if_neg (by omega), if_pos (by omega)]
  · intro b hb
    have h := P8.it b hb
    dsimp only
    rw [if_neg (by omega), if_neg (by omega), if_pos (by omega)]
  · intro b hb
    have h := P10.it b hb
    dsimp only
    rw [if_neg (by omega), if_neg (by omega), if_neg (by omega), if_pos (by omega)]
  · intro b hb
    have h := P11.it b hb
    dsimp only
    rw [if_neg (by omega), if_neg (by omega), if_neg (by omega), if_neg (by omega), if_pos (by omega)]
  · intro b hb
    have h := LT.it b hb
    dsimp only
    rw [if_pos (by omega)]
  · rintro e w13 ⟨rfl, K13⟩
    have B13 := Aside.mk (L12.it.F.bB.trans K13)
    clear K13 hsz hz12 hB hz6 w8d
    go_wp2_with fail
    go_ret
    exact ⟨rfl, B13.it⟩

theorem frameOwn_walk {A : Nat → Addr} (v : Value) (z : FV) (w : World) (hs : At4 A w w) (hz : FrameArg w v z) (hn : z.ns.length ≤ 1048576) :
    Calls Tryd.prog 8 #[v] w fun e w' => e = .returned (.bool true) ∧ Below w.heap.size w w' := by
  obtain ⟨rfl, ⟨h0, _, h2, h3, _⟩, hr, hb, _⟩ := hz
  exact frameOwn_law z.h.v z.h.t z.h.f z.h.s z.h.l z.sl z.ns w hs hr hb hn h0 h2 h3
end Go.Proofs.YtnifiagkiphjfaaDoor
