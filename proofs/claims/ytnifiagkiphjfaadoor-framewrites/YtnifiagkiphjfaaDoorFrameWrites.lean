/-
  FrameWrites: the walk.
-/
import Derived.Test.YtnifiagkiphjfaaDoorTextF
import Derived.Test.YtnifiagkiphjfaaDoorFrameH
import Derived.Test.YtnifiagkiphjfaaDoorFrameFlags
import Derived.Test.YtnifiagkiphjfaaDoorOpenF
namespace Go.Proofs.YtnifiagkiphjfaaDoor
open Go.RowKit

theorem enc_bytes4 {v t f s l : Int} (hv : 0 ≤ v ∧ v ≤ 255) (ht : 0 ≤ t ∧ t ≤ 255) (hf : 0 ≤ f ∧ f ≤ 65535) (hs : 0 ≤ s ∧ s ≤ 4294967295) (hl : 0 ≤ l ∧ l ≤ 4294967295) : AreBytes (enc v t f s l) := by
  intro n hn
  simp only [enc, List.mem_append, List.mem_cons, List.not_mem_nil, or_false] at hn
  rcases hn with (((rfl | rfl) | h) | h) | h
  · exact hv
  · exact ht
  · exact be2_bytes f hf.1 hf.2 n h
  · exact be4_bytes s hs.1 hs.2 n h
  · exact be4_bytes l hl.1 hl.2 n h
theorem step_appendB3 {W : World} {ops : Array Oper} {o : Oper} {a : Act} {K : Act → World → Prop} {Q : Exit → Act → World → Prop} {E : Prop} (tmp : Tmp) (hdst : o.dst = some tmp) (hgd : o.guard = none) (s x : Operand)
    (ho : o.op = .call { callee := .builtin .append, args := #[s, x], argTypes := #[32, 32] }) (B : Nat) (v sv : Value) (ns ms : List Int) (hown : OwnB B W v ns) (hr : Rd W sv ms)
    (hb : ns.length + ms.length ≤ 140737488355328) (hB : B ≤ W.heap.size) (hs : a.eval s = v) (hx : a.eval x = sv)
    (h : ∀ p l c w', Aside (OwnB B w' (.slice p l c) (ns ++ ms)) → Aside (Below B W w') → K (a.put (some tmp) (.slice p l c)) w') : if Region.wanted o (yielded ops a.tmps) = true then Oper.wp Tryd.prog o a W K Q else E := by
  refine step_appendB tmp hdst hgd s x ho B v sv ns ms hown hr hb hB hs hx (fun v' w' o k => ?_)
  obtain ⟨p, c, e⟩ := o.it.shape
  subst e
  exact h _ _ _ _ o k
section
variable {A : Nat → Addr} {w : World} {p : Nat} {v t f s l : Int} {d : Value} {ns : List Int}
theorem text_f (W0 : Words w) (hz : (0 ≤ v ∧ v ≤ 255) ∧ (0 ≤ t ∧ t ≤ 255) ∧ (0 ≤ f ∧ f ≤ 65535) ∧ (0 ≤ s ∧ s ≤ 4294967295) ∧ (0 ≤ l ∧ l ≤ 4294967295)) (W : World) (h : Aside (FAt A w p v t f s l d ns W)) :
    Calls Tryd.prog 18 #[hdr v t f s l] W fun e w' => e = .returned (.string (str (txB v t f s l))) ∧ Aside (FAt A w p v t f s l d ns w') :=
  (text_any v t f s l hz.1.1 hz.1.2 hz.2.1.1 hz.2.1.2 hz.2.2.1.1 hz.2.2.1.2 hz.2.2.2.1.1 hz.2.2.2.1.2 hz.2.2.2.2.1 hz.2.2.2.2.2 W (W0.later h.it.bB)).mono (by rintro e w' ⟨rfl, hb⟩; exact ⟨rfl, ⟨h.it.later hb⟩⟩)
theorem refText_f (hz : (0 ≤ v ∧ v ≤ 255) ∧ (0 ≤ t ∧ t ≤ 255) ∧ (0 ≤ f ∧ f ≤ 65535) ∧ (0 ≤ s ∧ s ≤ 4294967295) ∧ (0 ≤ l ∧ l ≤ 4294967295)) (W : World) (h : Aside (FAt A w p v t f s l d ns W)) :
    Calls Tryd.prog 19 #[hdr v t f s l] W fun e w' => e = .returned (.string (str (txB v t f s l))) ∧ Aside (FAt A w p v t f s l d ns w') :=
  (refText_walk v t f s l hz.1.1 hz.1.2 hz.2.1.1 hz.2.1.2 hz.2.2.1.1 hz.2.2.1.2 hz.2.2.2.1.1 hz.2.2.2.1.2 hz.2.2.2.2.1 hz.2.2.2.2.2 W).mono (by rintro e w' ⟨rfl, hb⟩; exact ⟨rfl, ⟨h.it.later hb⟩⟩)
theorem same_f (x y : Value) (ms : List Int) (hb : AreBytes ms) (W : World) (h : Aside (FAt A w p v t f s l d ns W)) (h1 : Aside (Rd W x ms)) (h2 : Aside (Rd W y ms)) :
    Calls Tryd.prog 13 #[x, y] W fun e w' => e = .returned (.bool true) ∧ Aside (FAt A w p v t f s l d ns w') :=
  (sameBytes_eq x y ms W h1.it.holds h2.it.holds hb).mono (by rintro e w' ⟨rfl, rfl⟩; exact ⟨rfl, h⟩)
theorem FAt.ownE {w1 : World} (h : Aside (FAt A w p v t f s l d ns w1)) : OwnB w1.heap.size (w1.alloc (.cells #[] 5)) (.slice (some ⟨w1.heap.size, 0, none⟩) 0 0) [] ∧ Rd (w1.alloc (.cells #[] 5)) d ns :=
  ⟨own_new w1 [] 0 rfl (Nat.le_refl _) (Nat.zero_le _), h.it.rR.later (alloc_below _ _)⟩
theorem FAt.stepE {w1 w2 : World} {o : Obj} {x : Value} (o2 : Aside (OwnB w1.heap.size w2 x ([] ++ ns))) (k2 : Aside (Below w1.heap.size (w1.alloc o) w2)) (h : Aside (FAt A w p v t f s l d ns w1)) :
    Aside (FAt A w p v t f s l d ns w2) ∧ Aside (Rd w2 x ns) := ⟨⟨h.it.later ((alloc_below _ _).trans k2.it)⟩, ⟨o2.it.rd⟩⟩
theorem bytes_f (x : Value) (hn : ns.length ≤ 140737488351300) (hz : (0 ≤ v ∧ v ≤ 255) ∧ (0 ≤ t ∧ t ≤ 255) ∧ (0 ≤ f ∧ f ≤ 65535) ∧ (0 ≤ s ∧ s ≤ 4294967295) ∧ (0 ≤ l ∧ l ≤ 4294967295)) (W : World) (h : Aside (FAt A w p v t f s l d ns W)) (hr : Aside (Rd W x ns)) :
    Calls Tryd.prog 20 #[frm v t f s l x] W fun e w' => ∃ y ev, e = .returned (.tuple #[y, ev]) ∧ Aside (Coded A ev (bE t l ns.length)) ∧ Aside (Rd w' y (bO v t f s l ns)) ∧ Aside (FAt A w p v t f s l d ns w') :=
  (bytes_any v t f s l x ns W h.it.sS hr.it hn hz.2.2.1.1 hz.2.2.1.2 hz.2.2.2.1.1 hz.2.2.2.1.2 hz.2.2.2.2.1 hz.2.2.2.2.2).mono (by rintro e w' ⟨y, ev, rfl, V, O, hb⟩; exact ⟨y, ev, rfl, V, ⟨O.it.rd⟩, ⟨h.it.later hb⟩⟩)
theorem refBytes_f (hn : ns.length ≤ 140737488351300) (hz : (0 ≤ v ∧ v ≤ 255) ∧ (0 ≤ t ∧ t ≤ 255) ∧ (0 ≤ f ∧ f ≤ 65535) ∧ (0 ≤ s ∧ s ≤ 4294967295) ∧ (0 ≤ l ∧ l ≤ 4294967295)) (W : World) (h : Aside (FAt A w p v t f s l d ns W)) :
    Calls Tryd.prog 21 #[frm v t f s l d] W fun e w' => ∃ y, e = .returned (.tuple #[y, .int .i64 (bE t l ns.length)]) ∧ Aside (Rd w' y (bO v t f s l ns)) ∧ Aside (FAt A w p v t f s l d ns w') ∧ Aside (Below W.heap.size W w') :=
  (refBytes_any (A := A) v t f s l d ns W h.it.sS h.it.rR hn hz.2.2.1.1 hz.2.2.1.2 hz.2.2.2.1.1 hz.2.2.2.1.2 hz.2.2.2.2.1 hz.2.2.2.2.2).mono (by rintro e w' ⟨y, rfl, O, hb⟩; exact ⟨y, rfl, ⟨O.it.rd⟩, ⟨h.it.later hb⟩, ⟨hb⟩⟩)
theorem code_f {ev : Value} {k : Int} (V : Aside (Coded A ev k)) (W : World) (h : Aside (FAt A w p v t f s l d ns W)) :
    Calls Tryd.prog 11 #[ev] W fun e w' => e = .returned (.int .i64 k) ∧ w' = W := code_of h.it.sS V.it
theorem bO_bytes (hb : AreBytes ns) (hz : (0 ≤ v ∧ v ≤ 255) ∧ (0 ≤ t ∧ t ≤ 255) ∧ (0 ≤ f ∧ f ≤ 65535) ∧ (0 ≤ s ∧ s ≤ 4294967295) ∧ (0 ≤ l ∧ l ≤ 4294967295)) : AreBytes (bO v t f s l ns) := by
  unfold bO
  split
  · intro n hn
    rcases List.mem_append.1 hn with h | h
    · exact enc_bytes4 hz.1 hz.2.1 hz.2.2.1 hz.2.2.2.1 hz.2.2.2.2 n h
    · exact hb n h
  · intro n hn; cases hn
theorem FAt.cellsA {w1 : World} {o : Obj} (h : Aside (FAt A w p v t f s l d ns w1)) :
    (w1.alloc o).cell? ⟨p, 0, none⟩ = some (.int .u8 v) ∧ (w1.alloc o).cell? ⟨p, 1, none⟩ = some (.int .u8 t) ∧ (w1.alloc o).cell? ⟨p, 2, none⟩ = some (.int .u16 f) ∧ (w1.alloc o).cell? ⟨p, 3, none⟩ = some (.int .u32 s) ∧ (w1.alloc o).cell? ⟨p, 4, none⟩ = some (.int .u32 l) ∧ (w1.alloc o).cell? ⟨p, 5, none⟩ = some d :=
  FAt.cells (A := A) (w := w) (ns := ns) ⟨h.it.later (alloc_below _ _)⟩
end

set_option maxRecDepth 20000 in
set_option maxHeartbeats 4000000 in
theorem frameWrites_law {A : Nat → Addr} (v t f s l : Int) (d : Value) (ns : List Int) (w : World) (hs : At4 A w w) (hw : Words w) (hr : Rd w d ns) (hbt : AreBytes ns) (hn : ns.length ≤ 140737488351232)
    (hz : (0 ≤ v ∧ v ≤ 255) ∧ (0 ≤ t ∧ t ≤ 255) ∧ (0 ≤ f ∧ f ≤ 65535) ∧ (0 ≤ s ∧ s ≤ 4294967295) ∧ (0 ≤ l ∧ l ≤ 4294967295)) :
    Calls Tryd.prog 4 #[frm v t f s l d] w fun e w' => e = .returned (.bool true) ∧ Below w.heap.size w w' := by
  obtain ⟨a, c, hd⟩ := hr.shape
  subst hd
  have AW := Aside.mk (awake4 (w.alloc (fbox v t f s l (.slice a ns.length c))) (hs.s.later (alloc_below _ _)) (hs.l.later (alloc_below _ _)))
  have G0 : Aside (FAt A w w.heap.size v t f s l (.slice a ns.length c) ns (w.alloc (fbox v t f s l (.slice a ns.length c)))) := ⟨⟨hs.s.later (alloc_below _ _), alloc_below _ _, FB.new w v t f s l _, hr.later (alloc_below _ _)⟩⟩
  have W0 := Aside.mk hw
  have BT := Aside.mk hbt
  have HN := Aside.mk hn
  have HZ := Aside.mk hz
  have EB := Aside.mk (enc_bytes4 hz.1 hz.2.1 hz.2.2.1 hz.2.2.2.1 hz.2.2.2.2)
  have c1 := Aside.mk (fun W h => encode_f (A := A) (w := w) (p := w.heap.size) (v := v) (t := t) (f := f) (s := s) (l := l) (d := .slice a ns.length c) (ns := ns) hz.2.2.1.1 hz.2.2.1.2 hz.2.2.2.1.1 hz.2.2.2.1.2 hz.2.2.2.2.1 hz.2.2.2.2.2 W h)
  have c2 := Aside.mk (fun W h => refEncode_f (A := A) (w := w) (p := w.heap.size) (v := v) (t := t) (f := f) (s := s) (l := l) (d := .slice a ns.length c) (ns := ns) hz.2.2.1.1 hz.2.2.1.2 hz.2.2.2.1.1 hz.2.2.2.1.2 hz.2.2.2.2.1 hz.2.2.2.2.2 W h)
  have c3 := Aside.mk (fun W h => size_f (A := A) (w := w) (p := w.heap.size) (v := v) (t := t) (f := f) (s := s) (l := l) (d := .slice a ns.length c) (ns := ns) hz.2.2.2.2.1 hz.2.2.2.2.2 W h)
  have c4 := Aside.mk (fun W h => refSize_f (A := A) (w := w) (p := w.heap.size) (v := v) (t := t) (f := f) (s := s) (l := l) (d := .slice a ns.length c) (ns := ns) hz.2.2.2.2.1 hz.2.2.2.2.2 W h)
  have c5 := Aside.mk (fun W h => text_f (A := A) (w := w) (p := w.heap.size) (v := v) (t := t) (f := f) (s := s) (l := l) (d := .slice a ns.length c) (ns := ns) hw hz W h)
  have c6 := Aside.mk (fun W h => refText_f (A := A) (w := w) (p := w.heap.size) (v := v) (t := t) (f := f) (s := s) (l := l) (d := .slice a ns.length c) (ns := ns) hz W h)
  clear hs hw hr hbt hn hz
  go_enter Tryd.func4, Tryd.ntmps4
  go_wp2_with fail
  refine AW.it.mono ?_
  rintro e w1 ⟨rfl, K1⟩
  have G1 : Aside (FAt A w w.heap.size v t f s l (.slice a ns.length c) ns w1) := ⟨G0.it.later K1⟩
  clear K1 AW G0
  go_wp2_with fail
  have G1d : Aside (FAt A w w.heap.size v t f s l (.slice a ns.length c) ns w1.drew) := ⟨G1.it.later (Below.refl _ _).drew⟩
  go_region_held_law (fun w' => w'.cell? ⟨w.heap.size, 0, none⟩ = some (.int .u8 v) ∧ w'.cell? ⟨w.heap.size, 1, none⟩ = some (.int .u8 t) ∧ w'.cell? ⟨w.heap.size, 2, none⟩ = some (.int .u16 f) ∧ w'.cell? ⟨w.heap.size, 3, none⟩ = some (.int .u32 s) ∧ w'.cell? ⟨w.heap.size, 4, none⟩ = some (.int .u32 l) ∧ w'.cell? ⟨w.heap.size, 5, none⟩ = some (.slice a ns.length c))
    (exact FAt.cells (by assumption)) (first
    | (go_at_call 14; refine (c1.it _ (by assumption)).mono ?_; rintro e w2 ⟨x2, rfl, O2, G2, K2⟩)
    | (go_at_call 15; refine (c2.it _ (by assumption)).mono ?_; rintro e w3 ⟨x3, rfl, O3, G3, K3⟩; have H2 : Aside (Rd w3 x2 (enc v t f s l)) := ⟨O2.it.rd.later K3.it⟩; have H3 : Aside (Rd w3 x3 (enc v t f s l)) := ⟨O3.it.rd⟩)
    | (go_at_call 13; refine (same_f x2 x3 (enc v t f s l) EB.it _ (by assumption) (by assumption) (by assumption)).mono ?_; rintro e w4 ⟨rfl, G4⟩)
    | (go_at_call 16; refine (c3.it _ (by assumption)).mono ?_; rintro e w5 ⟨rfl, G5⟩)
    | (go_at_call 17; refine (c4.it _ (by assumption)).mono ?_; rintro e w6 ⟨rfl, G6⟩)
    | (go_at_call 18; refine (c5.it _ (by assumption)).mono ?_; rintro e w7 ⟨rfl, G7⟩)
    | (go_at_call 19; refine (c6.it _ (by assumption)).mono ?_; rintro e w8 ⟨rfl, G8⟩))
  clear c1 c2 c3 c4 c5 c6 O2 O3 G2 G3 G4 G5 G6 G7 G1 G1d K2 K3 H2 H3
  go_wp2_with fail
  have G8d : Aside (FAt A w w.heap.size v t f s l (.slice a ns.length c) ns w8.drew) := ⟨G8.it.later (Below.refl _ _).drew⟩
  have c7 := Aside.mk (fun x W h hr => bytes_f (A := A) (w := w) (p := w.heap.size) (v := v) (t := t) (f := f) (s := s) (l := l) (d := .slice a ns.length c) (ns := ns) x (by have := HN.it; omega) HZ.it W h hr)
  have c8 := Aside.mk (fun W h => refBytes_f (A := A) (w := w) (p := w.heap.size) (v := v) (t := t) (f := f) (s := s) (l := l) (d := .slice a ns.length c) (ns := ns) (by have := HN.it; omega) HZ.it W h)
  go_region_held_law (fun w' => w'.cell? ⟨w.heap.size, 0, none⟩ = some (.int .u8 v) ∧ w'.cell? ⟨w.heap.size, 1, none⟩ = some (.int .u8 t) ∧ w'.cell? ⟨w.heap.size, 2, none⟩ = some (.int .u16 f) ∧ w'.cell? ⟨w.heap.size, 3, none⟩ = some (.int .u32 s) ∧ w'.cell? ⟨w.heap.size, 4, none⟩ = some (.int .u32 l) ∧ w'.cell? ⟨w.heap.size, 5, none⟩ = some (.slice a ns.length c))
    (first | exact FAt.cells (by assumption) | exact FAt.cellsA (by assumption)) (first
    | (go_at_call 20; refine (c7.it (.slice p9 l9 d9) _ (by assumption) (by assumption)).mono ?_; rintro e w10 ⟨x10, ev, rfl, V, R10, G10⟩)
    | (refine step_appendB3 41 rfl rfl (.tmp 38) (.tmp 40) rfl w8.drew.heap.size _ _ [] ns (FAt.ownE G8d).1 (FAt.ownE G8d).2 (by have := HN.it; show 0 + ns.length ≤ _; omega) (alloc_below w8.drew _).size rfl rfl ?_; intro p9 l9 d9 w9 o9 k9; have G9 := (FAt.stepE o9 k9 G8d).1; have R9 := (FAt.stepE o9 k9 G8d).2))
  clear G8 G8d G9 R9 o9 k9 c7
  have y0 := G10.it.fF.1.1
  have y1 := G10.it.fF.1.2.1
  have y2 := G10.it.fF.1.2.2.1
  have y3 := G10.it.fF.1.2.2.2.1
  have y4 := G10.it.fF.1.2.2.2.2
  have y5 := G10.it.fF.2
  have BO := Aside.mk (bO_bytes (v := v) (t := t) (f := f) (s := s) (l := l) BT.it HZ.it)
  go_wp2_with (first
    | (go_at_call 21; refine (c8.it _ G10).mono ?_; rintro e w11 ⟨x11, rfl, R11, G11, K11⟩; have R10' := Aside.mk (R10.it.later K11.it))
    | (go_at_call 13; refine (same_f x10 x11 (bO v t f s l ns) BO.it _ G11 R10' R11).mono ?_; rintro e w12 ⟨rfl, G12⟩)
    | (go_at_call 11; refine (code_f V _ G12).mono ?_; rintro e w13 ⟨rfl, rfl⟩))
  go_ret
  exact ⟨rfl, G12.it.bB⟩

/-- what the law's row gives -/
structure At4W (A : Nat → Addr) (w w' : World) : Prop where
  a : At4 A w w'
  g : Words w'
theorem frameWrites_walk {A : Nat → Addr} (v : Value) (z : FV) (w : World) (hs : At4W A w w) (hz : FrameArg w v z) :
    Calls Tryd.prog 4 #[v] w fun e w' => e = .returned (.bool true) ∧ Below w.heap.size w w' := by
  obtain ⟨rfl, hh, hr, hb, hl⟩ := hz
  exact frameWrites_law z.h.v z.h.t z.h.f z.h.s z.h.l z.sl z.ns w hs.a hs.g hr hb hl hh
end Go.Proofs.YtnifiagkiphjfaaDoor
