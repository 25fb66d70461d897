import Derived.Test.YtmjnnpbhklfcbaaGreatDoorSpy
import Derived.Deep.CutBlock
/-
  SchedPlays: next's world, behind the program's Next
-/
namespace Go.Proofs.YtmjnnpbhklfcbaaGreatDoor
open Go.RowKit

variable {A : Nat → Addr} {w w' w0 W : World} {own own' : Nat → Nat} {s m m' : Nat} {ks ks' K k1 l : List Nat} {L L' L1 : List Tk} {v vt vu vo vm x0 x1 y : Value} {b5 b6 ab b9 b11 : Nat} {I : Nat → Prop} {cs fr : List Value} {bo bm : List Bool} {av : Value} {F : World → Prop}
variable [Xs]

omit [Xs] in
theorem Sc.gr (h : Sc A w0 own w s L m ks) : Ground w0.heap.size w0 own w := by
  obtain ⟨p, r, h⟩ := h
  exact h.ln.g.g
omit [Xs] in
theorem rdBo_at {bs : List Bool} (h : RdBo w0 v bs) (g : Ground w0.heap.size w0 own w) : RdBo w v bs := ReadsOff.below h g.bel
/-- behind Next: the scheduler, what was asked, the frame, the document's scheduler, its lists; and what else stays -/
structure Nx (A : Nat → Addr) (w0 : World) (own : Nat → Nat) (s : Nat) (L : List Tk) (m : Nat) (K : List Nat) (b5 b6 ab b9 b11 : Nat) (cs fr : List Value) (av : Value) (l : List Nat) (vo vm : Value) (bo bm : List Bool) (vt vu : Value) (L1 : List Tk) (k1 : List Nat) (F : World → Prop) (W : World) : Prop where
  sc : Sc A w0 own W s L m K
  c5 : CellsO own 10 W b5 38 cs
  c6 : CellsO own 10 W b6 29 [.slice none 0 0, .slice none 0 0]
  cab : CellsO own 7 W ab 27 [av]
  rab : RdW W av l
  c9 : CellsO own 10 W b9 47 fr
  c11 : CellsO own 10 W b11 29 [vt, vu]
  t : RdT W vt L1
  ot : O9 own W vt
  u : RdW W vu k1
  ou : O9 own W vu
  ro : RdBo w0 vo bo
  rm : RdBo w0 vm bm
  ne : b11 ≠ b6
  f : F W
  sf : ∀ W W', Keeps Nowhere W W' → F W → F W'
  x : X9 own W
theorem Nx.quiet (h : Aside (Nx A w0 own s L m K b5 b6 ab b9 b11 cs fr av l vo vm bo bm vt vu L1 k1 F W)) (k : Keeps Nowhere W w') : Aside (Nx A w0 own s L m K b5 b6 ab b9 b11 cs fr av l vo vm bo bm vt vu L1 k1 F w') :=
  ⟨⟨h.it.sc.quiet k, h.it.c5.quiet k, h.it.c6.quiet k, h.it.cab.quiet k, h.it.rab.quiet k, h.it.c9.quiet k, h.it.c11.quiet k, h.it.t.quiet k, h.it.ot.sn (I := fun _ => False) (Sn.same k), h.it.u.quiet k, h.it.ou.sn (I := fun _ => False) (Sn.same k), h.it.ro, h.it.rm, h.it.ne, h.it.sf _ _ k h.it.f, h.it.sf, h.it.x.quiet k⟩⟩
theorem Nx.plus {G : World → Prop} (h : Aside (Nx A w0 own s L m K b5 b6 ab b9 b11 cs fr av l vo vm bo bm vt vu L1 k1 F W)) (g : G W) (sg : ∀ W W', Keeps Nowhere W W' → G W → G W') : Aside (Nx A w0 own s L m K b5 b6 ab b9 b11 cs fr av l vo vm bo bm vt vu L1 k1 (fun W => F W ∧ G W) W) :=
  ⟨{ h.it with f := ⟨h.it.f, g⟩, sf := fun W W' k e => ⟨h.it.sf W W' k e.1, sg W W' k e.2⟩ }⟩
theorem nx_first0 (ta ua : Option Addr) (tn tc uc : Nat) (h : Aside (Nx A w0 own s L m K b5 b6 ab b9 b11 cs fr av l vo vm bo bm vt vu L1 k1 F W)) : Calls Tryz.prog 54 #[.agg #[.slice ta tn tc, .slice ua 0 uc]] W fun e w' => e = .returned (.tuple #[.int .u32 0, .bool false]) ∧ Aside (Nx A w0 own s L m K b5 b6 ab b9 b11 cs fr av l vo vm bo bm vt vu L1 k1 F w') :=
  (refFirst0 ta ua tn tc uc W).mono (by rintro e w' ⟨rfl, k⟩; exact ⟨rfl, Nx.quiet h k.it⟩)
theorem nx_first1 (ta : Option Addr) (tn tc k : Nat) {t : List Nat} (h : Aside (Nx A w0 own s L m K b5 b6 ab b9 b11 cs fr av l vo vm bo bm (.slice ta tn tc) vu L1 (k :: t) F W)) : Calls Tryz.prog 54 #[.agg #[.slice ta tn tc, vu]] W fun e w' => e = .returned (.tuple #[.int .u32 k, .bool true]) ∧ Aside (Nx A w0 own s L m K b5 b6 ab b9 b11 cs fr av l vo vm bo bm (.slice ta tn tc) vu L1 (k :: t) F w') :=
  (refFirst1 ta tn tc k h.it.u).mono (by rintro e w' ⟨rfl, k⟩; exact ⟨rfl, Nx.quiet h k.it⟩)
theorem nx_saidO (hb : bo.length ≤ 9223372036854775807) (j : Nat) (hj : j ≤ 9223372036854775807) (h : Aside (Nx A w0 own s L m K b5 b6 ab b9 b11 cs fr av l vo vm bo bm vt vu L1 k1 F W)) : Calls Tryz.prog 55 #[vo, .int .i64 j] W fun e w' => e = .returned (.bool (saidL bo j)) ∧ Aside (Nx A w0 own s L m K b5 b6 ab b9 b11 cs fr av l vo vm bo bm vt vu L1 k1 F w') :=
  (said_at vo bo (rdBo_at h.it.ro h.it.sc.gr) hb j hj).mono (by rintro e w' ⟨rfl, rfl⟩; exact ⟨rfl, h⟩)
theorem nx_saidM (hb : bm.length ≤ 9223372036854775807) (j : Nat) (hj : j ≤ 9223372036854775807) (h : Aside (Nx A w0 own s L m K b5 b6 ab b9 b11 cs fr av l vo vm bo bm vt vu L1 k1 F W)) : Calls Tryz.prog 55 #[vm, .int .i64 j] W fun e w' => e = .returned (.bool (saidL bm j)) ∧ Aside (Nx A w0 own s L m K b5 b6 ab b9 b11 cs fr av l vo vm bo bm vt vu L1 k1 F w') :=
  (said_at vm bm (rdBo_at h.it.rm h.it.sc.gr) hb j hj).mono (by rintro e w' ⟨rfl, rfl⟩; exact ⟨rfl, h⟩)
/-- what Served leaves -/
def Svd (vu : Value) (B : Nat) (v' : Value) (K2 : List Nat) (W : World) : Prop := RdW W v' K2 ∧ ∀ b, v'.ownBlock = some b → vu.ownBlock = some b ∨ (B ≤ b ∧ b < W.heap.size)
theorem nx_served (B0 : Nat) (ta : Option Addr) (tn tc k : Nat) {t : List Nat} (more : Bool) (hb : (k :: t).length * 4 ≤ 140737488355328) (h : Aside (Nx A w0 own s L m K b5 b6 ab b9 b11 cs fr av l vo vm bo bm (.slice ta tn tc) vu L1 (k :: t) F W)) (hF : ∀ V, F V → B0 ≤ V.heap.size) : Calls Tryz.prog 56 #[.agg #[.slice ta tn tc, vu], .bool more] W fun e w' => ∃ a n c, e = .returned (.agg #[.slice ta tn tc, .slice a n c]) ∧ Aside (Nx A w0 own s L m K b5 b6 ab b9 b11 cs fr av l vo vm bo bm (.slice ta tn tc) vu L1 (k :: t) (fun V => F V ∧ Svd vu B0 (.slice a n c) (if more then t ++ [k] else t) V) w') := by
  refine (refServed ta tn tc k more h.it.u hb).mono ?_
  rintro e w' ⟨v', rfl, U, kk⟩
  obtain ⟨a, c, e, _⟩ := U.it.1.at
  subst e
  have hs := hF W h.it.f
  exact ⟨a, _, c, rfl, Nx.plus (Nx.quiet h kk.it) ⟨U.it.1, fun b hb => (U.it.2 b hb).imp id (fun x => ⟨Nat.le_trans hs x.1, x.2⟩)⟩ (fun V V' k e => ⟨e.1.quiet k, fun b hb => (e.2 b hb).imp id (fun x => ⟨x.1, Nat.lt_of_lt_of_le x.2 k.size⟩)⟩)⟩
theorem nx_framed (id j : Nat) (h : Aside (Nx A w0 own s L m K b5 b6 ab b9 b11 cs fr av l vo vm bo bm vt vu L1 k1 F W)) : Calls Tryz.prog 11 #[.int .u32 id, .int .i64 j] W fun e w' => ∃ g, e = .returned (.agg #[.int .u8 0, .int .u8 0, .int .u16 (flg j), .int .u32 id, .int .u32 2, .slice (some ⟨g, 0, none⟩) 2 2]) ∧ Aside (Cells w' g 5 (fby id j)) ∧ Aside (Nx A w0 own s L m K b5 b6 ab b9 b11 cs fr av l vo vm bo bm vt vu L1 k1 (fun V => F V ∧ Cells V g 5 (fby id j)) w') := by
  refine (framed_at id j W).mono ?_
  rintro e w' ⟨g, rfl, c, k⟩
  exact ⟨g, rfl, ⟨c.it.2⟩, Nx.plus (Nx.quiet h k.it) c.it.2 (fun V V' k e => e.later k (fun x => x))⟩
omit [Xs] in
/-- the two bytes of a frame -/
theorem holds_two {g : Nat} {a c : Int} (h : Cells W g 5 [.int .u8 a, .int .u8 c]) : Holds .u8 W (.slice (some ⟨g, 0, none⟩) 2 2) [a, c] := by
  refine ⟨_, _, _, rfl, rfl, fun i hi => ⟨_, rfl, ?_⟩⟩
  rw [add_none, Nat.zero_add, h.cell]
  match i, hi with
  | 0, _ => rfl
  | 1, _ => rfl
omit [Xs] in
theorem holds_no (W : World) : Holds .u8 W (.slice none 0 0) [] := ⟨none, 0, 0, rfl, rfl, fun i hi => absurd hi (Nat.not_lt_zero i)⟩
theorem nx_same (p t f i n : Int) (h : Aside (Nx A w0 own s L m K b5 b6 ab b9 b11 cs fr av l vo vm bo bm vt vu L1 k1 F W)) {qa qb : Option Addr} {na nb ca cb : Nat} {d : List Int} (ha : Holds .u8 W (.slice qa na ca) d) (hb : Holds .u8 W (.slice qb nb cb) d) : Calls Tryz.prog 27 #[.agg #[.int .u8 p, .int .u8 t, .int .u16 f, .int .u32 i, .int .u32 n, .slice qa na ca], .agg #[.int .u8 p, .int .u8 t, .int .u16 f, .int .u32 i, .int .u32 n, .slice qb nb cb]] W fun e w' => e = .returned (.bool true) ∧ Aside (Nx A w0 own s L m K b5 b6 ab b9 b11 cs fr av l vo vm bo bm vt vu L1 k1 F w') :=
  (same_fr p t f i n qa qb na nb ca cb d ha hb).mono (by rintro e w' ⟨rfl, k⟩; exact ⟨rfl, Nx.quiet h k.it⟩)
/-- the answer is laid out -/
theorem Nx.fin {vu' : Value} (h : Aside (Nx A w0 own s L m K b5 b6 ab b9 b11 cs fr av l vo vm bo bm vt vu L k1 F W)) (hk : Keeps Nowhere W w') (hs : Svd vu W.heap.size vu' K w') :
    let V := (w'.setCell ⟨b6, 0, none⟩ vt).setCell ⟨b6, 1, none⟩ vu'
    V.cell? ⟨b6, 0, none⟩ = some vt ∧ V.cell? ⟨b6, 1, none⟩ = some vu' ∧ Aside (Sp A w0 (give own W.heap.size 9) V s L m K vt vu') := by
  intro V
  have q0 : Sn (fun _ => False) own W (give own W.heap.size 9) w' := Sn.quiet hk 9
  have c6 := h.it.c6.sn q0 (fun x => x)
  have q : Sn (fun k => k = 10) (give own W.heap.size 9) w' (give own W.heap.size 9) V := ⟨fun _ _ => rfl, ((Keeps.refl _ _).setCell _ _ (fun _ => c6.2)).setCell _ _ (fun _ => c6.2)⟩
  have c := (c6.1.setCell 0 vt).setCell 1 vu'
  have hot := h.it.ot.sn q0
  have hou : O9 (give own W.heap.size 9) w' vu' := h.it.ou.new hs.2 hk
  exact ⟨c.cell 0, c.cell 1, ⟨(h.it.sc.sn q0 (fun x => x) (fun _ _ x => x)).sn q (by decide) (fun k hk e => by have := hk.2; omega), reads_sn (h.it.t.quiet hk) hot q (by decide), hot.sn q, reads_sn hs.1 hou q (by decide), hou.sn q, (h.it.x.sn q0 (fun x => x)).sn q (by decide)⟩⟩
/-- the document's scheduler is written over -/
theorem Nx.put {vu' : Value} {K2 : List Nat} (h : Aside (Nx A w0 own s L m K b5 b6 ab b9 b11 cs fr av l vo vm bo bm vt vu L1 k1 (fun _ => True) W)) (hk : Keeps Nowhere W w') (hs : Svd vu W.heap.size vu' K2 w') (s0 : isSl vt = true) (s1 : isSl vu = true) : Aside (Nx A w0 (give own W.heap.size 9) s L m K b5 b6 ab b9 b11 cs fr av l vo vm bo bm vt vu' L1 K2 (fun _ => True) ((w'.setCell ⟨b11, 0, none⟩ vt).setCell ⟨b11, 1, none⟩ vu')) := by
  have q0 : Sn (fun _ => False) own W (give own W.heap.size 9) w' := Sn.quiet hk 9
  have c11 := h.it.c11.sn q0 (fun x => x)
  have q : Sn (fun k => k = 10) (give own W.heap.size 9) w' (give own W.heap.size 9) ((w'.setCell ⟨b11, 0, none⟩ vt).setCell ⟨b11, 1, none⟩ vu') := ⟨fun _ _ => rfl, ((Keeps.refl _ _).setCell _ _ (fun _ => c11.2)).setCell _ _ (fun _ => c11.2)⟩
  have kB : Keeps (fun c => c = b11) w' ((w'.setCell ⟨b11, 0, none⟩ vt).setCell ⟨b11, 1, none⟩ vu') := Bx2.outK w' b11 vt vu'
  have c := (c11.1.setCell 0 vt).setCell 1 vu'
  have hot := h.it.ot.sn q0
  have hou : O9 (give own W.heap.size 9) w' vu' := h.it.ou.new hs.2 hk
  have c5 := h.it.c5.sn q0 (fun x => x)
  have c6 := h.it.c6.sn q0 (fun x => x)
  have c9 := h.it.c9.sn q0 (fun x => x)
  have cab := h.it.cab.sn q0 (fun x => x)
  exact ⟨⟨(h.it.sc.sn q0 (fun x => x) (fun _ _ x => x)).sn q (by decide) (fun k hk e => by have := hk.2; omega), ⟨c5.1.later kB (cells_ne c5.1 c11.1 (by decide)), c5.2⟩, ⟨c6.1.later kB (Ne.symm h.it.ne), c6.2⟩, ⟨cab.1.later kB (cells_ne cab.1 c11.1 (by decide)), cab.2⟩, reads_off (h.it.rab.quiet hk) kB c11.1 (not_sl (uv_sl l) (fun z hz => by
    simp only [List.mem_cons, List.not_mem_nil, or_false] at hz
    rcases hz with rfl | rfl
    · exact s0
    · exact s1)), ⟨c9.1.later kB (cells_ne c9.1 c11.1 (by decide)), c9.2⟩, ⟨c, c11.2⟩, reads_sn (h.it.t.quiet hk) hot q (by decide), hot.sn q, reads_sn hs.1 hou q (by decide), hou.sn q, h.it.ro, h.it.rm, h.it.ne, trivial, fun _ _ _ _ => trivial, (h.it.x.sn q0 (fun x => x)).sn q (by decide)⟩⟩
end Go.Proofs.YtmjnnpbhklfcbaaGreatDoor

/-
  SchedPlays: next while a ticket waits
-/
namespace Go.Proofs.YtmjnnpbhklfcbaaGreatDoor
open Go.RowKit

variable {A : Nat → Addr} {w w' w0 W W7 : World} {own own' : Nat → Nat} {s m m' : Nat} {ks ks' K k1 l : List Nat} {L L' L1 : List Tk} {v vt vu vo vm x0 x1 y : Value} {b5 b6 ab b9 b11 b12 : Nat} {I : Nat → Prop} {cs fr : List Value} {bo bm : List Bool} {av : Value} {F : World → Prop}
variable [Xs]

omit [Xs] in
theorem cell_S {g : Nat} {T : TypeId} {xs : List Value} (hc : Cells W g T xs) (hne : g ≠ b6) (u0 u1 : Value) (j : Nat) : ((W.setCell ⟨b6, 0, none⟩ u0).setCell ⟨b6, 1, none⟩ u1).cell? ⟨g, j, none⟩ = xs[j]? := (hc.later (Bx2.outK W b6 u0 u1) hne).cell j
/-- what stays, with a header's box -/
def Kh (W7 : World) (b12 : Nat) (hs : List Value) (V : World) : Prop := Keeps Nowhere W7 V ∧ Cells V b12 44 hs
omit [Xs] in
theorem Kh.st {hs : List Value} : ∀ W W', Keeps Nowhere W W' → Kh W7 b12 hs W → Kh W7 b12 hs W' := fun _ _ k e => ⟨e.1.trans k, e.2.later k (fun x => x)⟩
theorem Nx.s14 {a0 a1 a2 a3 a4 a5 h0 h1 h2 h3 h4 : Value} (h : Aside (Nx A w0 own s L m K b5 b6 ab b9 b11 cs [a0, a1, a2, a3, a4, a5] av l vo vm bo bm vt vu L1 k1 (Kh W7 b12 [h0, h1, h2, h3, h4]) W)) :
    (W.cell? ⟨b11, 0, none⟩ = some vt ∧ W.cell? ⟨b11, 1, none⟩ = some vu ∧ W.cell? ⟨ab, 0, none⟩ = some av) ∧ (W.cell? ⟨b9, 0, none⟩ = some a0 ∧ W.cell? ⟨b9, 1, none⟩ = some a1 ∧ W.cell? ⟨b9, 2, none⟩ = some a2 ∧ W.cell? ⟨b9, 3, none⟩ = some a3 ∧ W.cell? ⟨b9, 4, none⟩ = some a4 ∧ W.cell? ⟨b9, 5, none⟩ = some a5) ∧ W.cell? ⟨b12, 0, none⟩ = some h0 ∧ W.cell? ⟨b12, 1, none⟩ = some h1 ∧ W.cell? ⟨b12, 2, none⟩ = some h2 ∧ W.cell? ⟨b12, 3, none⟩ = some h3 ∧ W.cell? ⟨b12, 4, none⟩ = some h4 :=
  ⟨⟨h.it.c11.1.cell 0, h.it.c11.1.cell 1, h.it.cab.1.cell 0⟩, ⟨h.it.c9.1.cell 0, h.it.c9.1.cell 1, h.it.c9.1.cell 2, h.it.c9.1.cell 3, h.it.c9.1.cell 4, h.it.c9.1.cell 5⟩, h.it.f.2.cell 0, h.it.f.2.cell 1, h.it.f.2.cell 2, h.it.f.2.cell 3, h.it.f.2.cell 4⟩
theorem Nx.s14S {u0 u1 a0 a1 a2 a3 a4 a5 h0 h1 h2 h3 h4 : Value} (h : Aside (Nx A w0 own s L m K b5 b6 ab b9 b11 cs [a0, a1, a2, a3, a4, a5] av l vo vm bo bm vt vu L1 k1 (Kh W7 b12 [h0, h1, h2, h3, h4]) W)) :
    (fun W : World => (W.cell? ⟨b11, 0, none⟩ = some vt ∧ W.cell? ⟨b11, 1, none⟩ = some vu ∧ W.cell? ⟨ab, 0, none⟩ = some av) ∧ (W.cell? ⟨b9, 0, none⟩ = some a0 ∧ W.cell? ⟨b9, 1, none⟩ = some a1 ∧ W.cell? ⟨b9, 2, none⟩ = some a2 ∧ W.cell? ⟨b9, 3, none⟩ = some a3 ∧ W.cell? ⟨b9, 4, none⟩ = some a4 ∧ W.cell? ⟨b9, 5, none⟩ = some a5) ∧ W.cell? ⟨b12, 0, none⟩ = some h0 ∧ W.cell? ⟨b12, 1, none⟩ = some h1 ∧ W.cell? ⟨b12, 2, none⟩ = some h2 ∧ W.cell? ⟨b12, 3, none⟩ = some h3 ∧ W.cell? ⟨b12, 4, none⟩ = some h4) ((W.setCell ⟨b6, 0, none⟩ u0).setCell ⟨b6, 1, none⟩ u1) := by
  have c11 := cell_S h.it.c11.1 h.it.ne u0 u1
  have cab := cell_S h.it.cab.1 (cells_ne h.it.cab.1 h.it.c6.1 (by decide)) u0 u1
  have c9 := cell_S h.it.c9.1 (cells_ne h.it.c9.1 h.it.c6.1 (by decide)) u0 u1
  have c12 := cell_S h.it.f.2 (cells_ne h.it.f.2 h.it.c6.1 (by decide)) u0 u1
  exact ⟨⟨c11 0, c11 1, cab 0⟩, ⟨c9 0, c9 1, c9 2, c9 3, c9 4, c9 5⟩, c12 0, c12 1, c12 2, c12 3, c12 4⟩
theorem Nx.c62 (h : Aside (Nx A w0 own s L m K b5 b6 ab b9 b11 cs fr av l vo vm bo bm vt vu L1 k1 F W)) : W.cell? ⟨b6, 0, none⟩ = some (.slice none 0 0) ∧ W.cell? ⟨b6, 1, none⟩ = some (.slice none 0 0) ∧ W.frozen? ⟨b6, 0, none⟩ = false ∧ W.frozen? ⟨b6, 1, none⟩ = false := ⟨h.it.c6.1.cell 0, h.it.c6.1.cell 1, h.it.c6.1.frozen 0, h.it.c6.1.frozen 1⟩
omit [Xs] in
theorem in6_0 : ¬ In6 0 := fun h => by have := h.1; omega
omit [Xs] in
theorem in6_7 : ¬ In6 7 := fun h => by have := h.2; omega
omit [Xs] in
theorem in6_8 : ¬ In6 8 := fun h => by have := h.2; omega
/-- behind Control: all is gathered -/
theorem Nx.gather {cb ob b4 : Nat} {vt' vu' : Value} {L2 : List Tk} {k2 : List Nat} {hs : List Value} {w4 w5 W7 : World} (P : Aside (Sr A w0 own w4 s L m K b5 b6 b4 cs vt vu L1 k1)) (D : Aside (Dt w0 own w4 cb ob ab l vo vm bo bm)) (C9 : Aside (CellsO own 10 w4 b9 47 fr)) (k5 : Keeps Nowhere w4 w5) (T5 : TN w4 w5 vt vt' L2) (U5 : UN w4 w5 vu vu' k2)
    (hW : W7 = (w5.alloc (.cells #[vt', vu'] 29)).alloc (.cells hs.toArray 44)) : ∃ aa ac own7, Aside (Nx A w0 own7 s L m K b5 b6 ab b9 w5.heap.size cs fr (.slice aa l.length ac) l vo vm bo bm vt' vu' L2 k2 (Kh W7 (w5.heap.size + 1) hs) W7) := by
  have P6 := Sr.doc P k5 T5 U5
  have qa : Sn (fun _ => False) own w4 (give own w4.heap.size 9) w5 := Sn.quiet k5 9
  have qb : Sn (fun _ => False) (give own w4.heap.size 9) w5 (give (give own w4.heap.size 9) w5.heap.size 10) (w5.alloc (.cells #[vt', vu'] 29)) := Sn.quiet ((Keeps.refl _ _).alloc _) 10
  have D6 := (D.it.sn qa (fun x => x) (fun x => x) (fun x => x)).sn qb (fun x => x) (fun x => x) (fun x => x)
  have C6 := (C9.it.sn qa (fun x => x)).sn qb (fun x => x)
  generalize give (give own w4.heap.size 9) w5.heap.size 10 = own6 at P6 D6 C6
  have k7 : Keeps Nowhere (w5.alloc (.cells #[vt', vu'] 29)) W7 := by rw [hW]; exact (Keeps.refl _ _).alloc _
  have qc : Sn (fun _ => False) own6 (w5.alloc (.cells #[vt', vu'] 29)) own6 W7 := Sn.same k7
  have P7 := Sr.quiet P6 k7
  have D7 := D6.sn qc (fun x => x) (fun x => x) (fun x => x)
  have C7 := C6.sn qc (fun x => x)
  have H7 : Cells W7 (w5.heap.size + 1) 44 hs := by
    have c := Cells.new (w5.alloc (.cells #[vt', vu'] 29)) 44 hs
    rw [World.size_alloc] at c
    rw [hW]
    exact c
  obtain ⟨v, hv, hr⟩ := D7.ab
  obtain ⟨aa, ac, rfl⟩ := owns_sl hr.1
  exact ⟨aa, ac, own6, ⟨⟨P7.it.sc, P7.it.c5, P7.it.c6, hv, owns_readsK hr.1, C7, P7.it.cn, P7.it.t, P7.it.ot, P7.it.u, P7.it.ou, D7.ro, D7.rm, P7.it.ne, ⟨Keeps.refl _ _, H7⟩, Kh.st, P7.it.x⟩⟩⟩
set_option maxRecDepth 20000 in
set_option maxHeartbeats 8000000 in
theorem next_a (tk : Tk) (h : Sp A w0 own w s (tk :: L) m ks vt vu) (kind : Int) (t : Tk) (id : Nat) (oa ma : Option Addr) (on oc mn mc : Nat) (ro : RdBo w0 (.slice oa on oc) bo) (rm : RdBo w0 (.slice ma mn mc) bm) (hm : m < 8796093022208) :
    Calls Tryz.prog 25 #[ptr s, .agg #[vt, vu], .agg #[.int .i64 kind, .int .i64 t.k, .int .u32 t.s, .int .u32 t.v, .int .u32 id, .slice oa on oc, .slice ma mn mc]] w fun e w' => ∃ vt' vu' own', e = .returned (.tuple #[.agg #[vt', vu'], .bool true]) ∧ Aside (Sp A w0 own' w' s L m ks vt' vu') := by
  obtain ⟨ta, tc, hvt, _, _, _⟩ := h.t.at
  obtain ⟨ua, uc, hvu, _, _, _, _⟩ := h.u.at
  have hbd := h.sc.bound
  have MAY := Aside.mk (h.sc.may tk (by simp))
  obtain ⟨tn, htn⟩ : ∃ tn, tn = (tk :: L).length := ⟨_, rfl⟩
  obtain ⟨un, hun⟩ : ∃ un, un = ks.length := ⟨_, rfl⟩
  rw [← htn] at hvt
  rw [← hun] at hvu
  subst hvt hvu
  have P0 := Sr.start h [.int .i64 kind, .int .i64 t.k, .int .u32 t.s, .int .u32 t.v, .int .u32 id, .slice oa on oc, .slice ma mn mc]
  obtain ⟨W0, hW0⟩ : ∃ W0, W0 = ((w.alloc (.cells #[.slice ta tn tc, .slice ua un uc] 29)).alloc (.cells #[.int .i64 kind, .int .i64 t.k, .int .u32 t.s, .int .u32 t.v, .int .u32 id, .slice oa on oc, .slice ma mn mc] 38)).alloc (.cells #[.slice none 0 0, .slice none 0 0] 29) := ⟨_, rfl⟩
  rw [← hW0] at P0
  generalize give own w.heap.size 10 = own0 at P0
  obtain ⟨W1, hW1⟩ : ∃ W1, W1 = W0.alloc (.cells #[.slice none 0 0] 27) := ⟨_, rfl⟩
  have q1 : Sn (fun _ => False) own0 W0 (give own0 W0.heap.size 7) W1 := Sn.quiet (by rw [hW1]; exact (Keeps.refl _ _).alloc _) 7
  have P1 := Sr.sn P0 q1 (fun x => x) (fun x => x) (P0.it.sc.sn q1 (fun x => x) (fun _ _ x => x))
  have CA : Aside (CellsO (give own0 W0.heap.size 7) 7 W1 W0.heap.size 27 [.slice none 0 0]) := ⟨⟨by rw [hW1]; exact Cells.new _ _ _, give_new (Nat.le_refl _)⟩⟩
  generalize give own0 W0.heap.size 7 = own1 at P1 CA
  have HR := Aside.mk (And.intro ro rm)
  have HB := Aside.mk (And.intro hbd (And.intro htn hun))
  have hz : W0.heap.size = w.heap.size + 3 := by rw [hW0]; simp
  clear h htn hun hbd q1 ro rm P0
  go_enter Tryz.func25, Tryz.ntmps25
  go_upto_region 2 with fail
  rw [← hW0]
  obtain ⟨b4, hb4⟩ : ∃ b, Aside (b = w.heap.size) := ⟨_, ⟨rfl⟩⟩
  obtain ⟨b5, hb5⟩ : ∃ b, Aside (b = w.heap.size + 1) := ⟨_, ⟨rfl⟩⟩
  obtain ⟨b6, hb6⟩ : ∃ b, Aside (b = w.heap.size + 1 + 1) := ⟨_, ⟨rfl⟩⟩
  obtain ⟨ab, hab⟩ : ∃ b, Aside (b = W0.heap.size) := ⟨_, ⟨rfl⟩⟩
  rw [← hb6.it, ← hb5.it, ← hb4.it] at P1
  rw [← hab.it] at CA
  rw [show w.heap.size + 3 = ab from by rw [hab.it, hz], show w.heap.size + 2 = b6 from hb6.it.symm, ← hb5.it, ← hb4.it]
  rw [← hW1]
  clear hW0 hW1 hz
  have o0 := P1.it.c5.1.cell 0
  have o1 := P1.it.c5.1.cell 1
  have o2 := P1.it.c5.1.cell 2
  have o3 := P1.it.c5.1.cell 3
  have o4 := P1.it.c5.1.cell 4
  have o5 := P1.it.c5.1.cell 5
  have o6 := P1.it.c5.1.cell 6
  simp only [List.getElem?_cons_zero, List.getElem?_cons_succ] at o0 o1 o2 o3 o4 o5 o6
  have DA := Aside.mk (data_at (l := []) kind t id P1.it.sc.gr HR.it.1 HR.it.2 CA.it OwR.zero)
  have NX := Aside.mk (fun W ow (hh : Sc A w0 ow W s (tk :: L) m ks) fv => next_tk tk hh (by omega) fv)
  go_upto_region 3 with (first
    | (go_at_call 53; refine DA.it.mono ?_; rintro e w2 ⟨cb, ob, own2, rfl, D2, q2⟩; have P2 := Sr.sn P1 q2.it (fun x => x) (fun x => x) (P1.it.sc.sn q2.it (fun x => x) (fun _ _ x => x)))
    | (go_at_call 9; refine (NX.it w2 own2 P2.it.sc _).mono ?_; rintro e w3 ⟨own3, rfl, hs3, q3⟩)
    | fail)
  have P3 := Sr.sn P2 q3.it in6_9 in6_10 hs3.it
  have D3 := Aside.mk (D2.it.sn q3.it in6_0 in6_7 in6_8)
  clear o0 o1 o2 o3 o4 o5 o6 DA NX P1 P2 D2 CA q2 q3 hs3
  obtain ⟨w4, hw4⟩ : ∃ w4, w4 = w3.alloc (.cells #[.int .u8 0, .int .u8 (shF tk.k.toNat), .int .u16 (shG tk.k.toNat), .int .u32 tk.s, .int .u32 tk.v, .slice none 0 0] 47) := ⟨_, rfl⟩
  have q4 : Sn (fun _ => False) own3 w3 (give own3 w3.heap.size 10) w4 := Sn.quiet (by rw [hw4]; exact (Keeps.refl _ _).alloc _) 10
  have P4 := Sr.sn P3 q4 (fun x => x) (fun x => x) (P3.it.sc.sn q4 (fun x => x) (fun _ _ x => x))
  have D4 := Aside.mk (D3.it.sn q4 (fun x => x) (fun x => x) (fun x => x))
  have C9 : Aside (CellsO (give own3 w3.heap.size 10) 10 w4 w3.heap.size 47 [.int .u8 0, .int .u8 (shF tk.k.toNat), .int .u16 (shG tk.k.toNat), .int .u32 tk.s, .int .u32 tk.v, .slice none 0 0]) := ⟨⟨by rw [hw4]; exact Cells.new _ _ _, give_new (Nat.le_refl _)⟩⟩
  rw [← hw4]
  generalize give own3 w3.heap.size 10 = own4 at P4 D4 C9
  obtain ⟨b9, hb9⟩ : ∃ b, Aside (b = w3.heap.size) := ⟨_, ⟨rfl⟩⟩
  rw [← hb9.it] at C9 ⊢
  clear hw4 hb9 P3 D3 q4
  obtain ⟨d0, d1⟩ := Sr.cn2 P4
  have CT := Aside.mk (refControl1 (w := w4) tk ua un uc P4.it.t MAY.it (by have := HB.it.1; omega))
  go_upto_region 4 with (first | (go_at_call 26; refine CT.it.mono ?_; rintro e w5 ⟨v1, rfl, T5, k5⟩; obtain ⟨h0, h2, hv1, _, _, _⟩ := T5.it.1.at; generalize L.length = h1 at hv1; subst hv1) | fail)
  obtain ⟨w7, hw7⟩ : ∃ w7, w7 = (w5.alloc (.cells #[.slice h0 h1 h2, .slice ua un uc] 29)).alloc (.cells #[.int .u8 0, .int .u8 (shF tk.k.toNat), .int .u16 (shG tk.k.toNat), .int .u32 tk.s, .int .u32 tk.v] 44) := ⟨_, rfl⟩
  obtain ⟨aa, ac, own7, N7⟩ := Nx.gather (hs := [.int .u8 0, .int .u8 (shF tk.k.toNat), .int .u16 (shG tk.k.toNat), .int .u32 tk.s, .int .u32 tk.v]) P4 D4 C9 k5.it T5.it (UN.same P4.it.u k5.it) hw7
  rw [← hw7]
  obtain ⟨b12, hb12⟩ : ∃ b, Aside (b = w5.heap.size + 1) := ⟨_, ⟨rfl⟩⟩
  obtain ⟨b11, hb11⟩ : ∃ b, Aside (b = w5.heap.size) := ⟨_, ⟨rfl⟩⟩
  rw [← hb12.it, ← hb11.it] at N7 ⊢
  clear hw7 hb12 hb11 P4 D4 C9 CT d0 d1 T5 k5
  have N7d := Nx.quiet N7 (Keeps.refl _ _).drew
  go_upto_region 5 with fail
  go_region_held3 (fun W => (W.cell? ⟨b11, 0, none⟩ = some (.slice h0 h1 h2) ∧ W.cell? ⟨b11, 1, none⟩ = some (.slice ua un uc) ∧ W.cell? ⟨ab, 0, none⟩ = some (.slice aa ([] : List Nat).length ac)) ∧ (W.cell? ⟨b9, 0, none⟩ = some (.int .u8 0) ∧ W.cell? ⟨b9, 1, none⟩ = some (.int .u8 (shF tk.k.toNat)) ∧ W.cell? ⟨b9, 2, none⟩ = some (.int .u16 (shG tk.k.toNat)) ∧ W.cell? ⟨b9, 3, none⟩ = some (.int .u32 tk.s) ∧ W.cell? ⟨b9, 4, none⟩ = some (.int .u32 tk.v) ∧ W.cell? ⟨b9, 5, none⟩ = some (.slice none 0 0)) ∧ W.cell? ⟨b12, 0, none⟩ = some (.int .u8 0) ∧ W.cell? ⟨b12, 1, none⟩ = some (.int .u8 (shF tk.k.toNat)) ∧ W.cell? ⟨b12, 2, none⟩ = some (.int .u16 (shG tk.k.toNat)) ∧ W.cell? ⟨b12, 3, none⟩ = some (.int .u32 tk.s) ∧ W.cell? ⟨b12, 4, none⟩ = some (.int .u32 tk.v)) (first | with_reducible exact Nx.s14 (by with_reducible assumption) | with_reducible exact Nx.s14S (by with_reducible assumption)) (first
    | (go_at_call 27; refine (nx_same _ _ _ _ _ (by with_reducible assumption) (holds_no _) (holds_no _)).mono ?_; rintro e w8 ⟨rfl, N8⟩; obtain ⟨f0, f1, f2, f3⟩ := Nx.c62 N8)
    | fail)
  all_goals
    obtain ⟨y0, y1, E⟩ := Nx.fin N7 N8.it.f.1 (vu' := .slice ua un uc) ⟨N8.it.u, fun b hb => .inl hb⟩
    clear f0 f1 f2 f3
    generalize (w8.setCell ⟨b6, 0, none⟩ (.slice h0 h1 h2)).setCell ⟨b6, 1, none⟩ (.slice ua un uc) = V at y0 y1 E ⊢
    go_wp2
    refine bodyPost_ret (v := .tuple #[.agg #[.slice h0 h1 h2, .slice ua un uc], .bool true]) (by simp [results, Tryz.results25, go_sem, y0, y1]) rfl ?_
    exact ⟨_, _, _, rfl, E⟩
end Go.Proofs.YtmjnnpbhklfcbaaGreatDoor

/-
  SchedPlays: next while no ticket waits
-/
namespace Go.Proofs.YtmjnnpbhklfcbaaGreatDoor
open Go.RowKit

variable {A : Nat → Addr} {w w' w0 W W7 : World} {own own' : Nat → Nat} {s m m' cb ob : Nat} {ks ks' K k1 l : List Nat} {L L' L1 : List Tk} {v vt vu vo vm x0 x1 y : Value} {b5 b6 ab b9 b11 b12 : Nat} {I : Nat → Prop} {cs fr : List Value} {bo bm : List Bool} {av : Value} {F : World → Prop}
variable [Xs]

omit [Xs] in
theorem in8_9 : ¬ Sdat.In8 9 := fun h => by have := h.2; omega
omit [Xs] in
theorem in8_10 : ¬ Sdat.In8 10 := fun h => by have := h.2; omega
omit [Xs] in
theorem least_yes (p : Nat → Bool) (n : Nat) : ∃ j, j ≤ n ∧ (∀ i, i < j → p i = false) ∧ (j < n → p j = true) := by
  induction n with
  | zero => exact ⟨0, Nat.le_refl _, fun i h => absurd h (Nat.not_lt_zero i), fun h => absurd h (Nat.lt_irrefl _)⟩
  | succ n ih =>
    obtain ⟨j, h1, h2, h3⟩ := ih
    by_cases hj : j < n
    · exact ⟨j, by omega, h2, fun _ => h3 hj⟩
    · obtain rfl : j = n := by omega
      cases hp : p j with
      | true => exact ⟨j, by omega, h2, fun _ => hp⟩
      | false => exact ⟨j + 1, Nat.le_refl _, fun i hi => by
          rcases Nat.lt_or_ge i j with h | h
          · exact h2 i h
          · obtain rfl : i = j := by omega
            exact hp, fun h => absurd h (Nat.lt_irrefl _)⟩
omit [Xs] in
/-- nobody has a frame -/
theorem next_dn (h : Sc A w0 own w s [] m ks) (d : Dt w0 own w cb ob ab [] vo vm bo bm) (hl : ks.length * 4 ≤ 140737488355328) (hbo : bo.length ≤ 9223372036854775807) (hbm : bm.length ≤ 9223372036854775807) (hno : ∀ i, i < ks.length → saidL bo i = false) :
    Calls Tryz.prog 9 #[ptr s, .func (.func 78) #[] #[ptr cb, ptr ob]] w fun e w' => ∃ own', e = .returned (.tuple #[.agg #[.int .u8 0, .int .u8 0, .int .u16 0, .int .u32 0, .int .u32 0, .slice none 0 0], .bool false]) ∧ Aside (Sc A w0 own' w' s [] m []) ∧ Aside (Dt w0 own' w' cb ob ab ks vo vm bo bm) ∧ Aside (Sn Sdat.In8 own w own' w') := by
  refine (Sdat.next_data (datOk ks.length hl hbo hbm) h d (Nat.le_refl _) (by omega) ks.length (Nat.le_refl _) (fun i k hi _ => hno i hi) (fun k hk => by rw [List.getElem?_eq_none (Nat.le_refl _)] at hk; cases hk)).mono ?_
  rintro e w' ⟨own', q, h⟩
  rcases h with ⟨_, rfl, h⟩ | ⟨k', g, hk, _⟩
  · exact ⟨own', rfl, ⟨h.it.1⟩, ⟨h.it.2⟩, q⟩
  · rw [List.getElem?_eq_none (Nat.le_refl _)] at hk
    cases hk
omit [Xs] in
/-- the j-th has one -/
theorem next_ds {k j : Nat} (h : Sc A w0 own w s [] m ks) (d : Dt w0 own w cb ob ab [] vo vm bo bm) (hl : ks.length * 4 ≤ 140737488355328) (hbo : bo.length ≤ 9223372036854775807) (hbm : bm.length ≤ 9223372036854775807) (hk : ks[j]? = some k) (hno : ∀ i, i < j → saidL bo i = false) (hyes : saidL bo j = true) :
    Calls Tryz.prog 9 #[ptr s, .func (.func 78) #[] #[ptr cb, ptr ob]] w fun e w' => ∃ own' g, e = .returned (.tuple #[.agg #[.int .u8 0, .int .u8 0, .int .u16 (flg j), .int .u32 k, .int .u32 2, .slice (some ⟨g, 0, none⟩) 2 2], .bool true]) ∧ Aside (Sc A w0 own' w' s [] m (if saidL bm j then ks.drop (j + 1) ++ [k] else ks.drop (j + 1))) ∧ Aside (Dt w0 own' w' cb ob ab (ks.take (j + 1)) vo vm bo bm) ∧ Aside (Sn Sdat.In8 own w own' w') ∧ Aside (CellsO own' 9 w' g 5 (fby k j)) := by
  have hjl : j < ks.length := (List.getElem?_eq_some_iff.1 hk).1
  refine (Sdat.next_data (datOk ks.length hl hbo hbm) h d (Nat.le_refl _) (by omega) j (by omega) (fun i k hi _ => hno i hi) (fun k _ => hyes)).mono ?_
  rintro e w' ⟨own', q, h⟩
  rcases h with ⟨hj, _⟩ | ⟨k', g, hk', rfl, h⟩
  · omega
  · obtain rfl : k = k' := Option.some.inj (hk.symm.trans hk')
    exact ⟨own', g, rfl, ⟨h.it.1⟩, ⟨h.it.2.1⟩, q, ⟨h.it.2.2⟩⟩
theorem Nx.any {G : World → Prop} (h : Aside (Nx A w0 own s L m K b5 b6 ab b9 b11 cs fr av l vo vm bo bm vt vu L1 k1 F W)) (g : G W) (sg : ∀ W W', Keeps Nowhere W W' → G W → G W') : Aside (Nx A w0 own s L m K b5 b6 ab b9 b11 cs fr av l vo vm bo bm vt vu L1 k1 G W) := ⟨{ h.it with f := g, sf := sg }⟩
theorem Nx.s9 {a0 a1 a2 a3 a4 a5 : Value} (h : Aside (Nx A w0 own s L m K b5 b6 ab b9 b11 cs [a0, a1, a2, a3, a4, a5] av l vo vm bo bm vt vu L1 k1 F W)) :
    (W.cell? ⟨b11, 0, none⟩ = some vt ∧ W.cell? ⟨b11, 1, none⟩ = some vu ∧ W.cell? ⟨ab, 0, none⟩ = some av) ∧ W.cell? ⟨b9, 0, none⟩ = some a0 ∧ W.cell? ⟨b9, 1, none⟩ = some a1 ∧ W.cell? ⟨b9, 2, none⟩ = some a2 ∧ W.cell? ⟨b9, 3, none⟩ = some a3 ∧ W.cell? ⟨b9, 4, none⟩ = some a4 ∧ W.cell? ⟨b9, 5, none⟩ = some a5 :=
  ⟨⟨h.it.c11.1.cell 0, h.it.c11.1.cell 1, h.it.cab.1.cell 0⟩, h.it.c9.1.cell 0, h.it.c9.1.cell 1, h.it.c9.1.cell 2, h.it.c9.1.cell 3, h.it.c9.1.cell 4, h.it.c9.1.cell 5⟩
theorem Nx.s9S {u0 u1 a0 a1 a2 a3 a4 a5 : Value} (h : Aside (Nx A w0 own s L m K b5 b6 ab b9 b11 cs [a0, a1, a2, a3, a4, a5] av l vo vm bo bm vt vu L1 k1 F W)) :
    (fun W : World => (W.cell? ⟨b11, 0, none⟩ = some vt ∧ W.cell? ⟨b11, 1, none⟩ = some vu ∧ W.cell? ⟨ab, 0, none⟩ = some av) ∧ W.cell? ⟨b9, 0, none⟩ = some a0 ∧ W.cell? ⟨b9, 1, none⟩ = some a1 ∧ W.cell? ⟨b9, 2, none⟩ = some a2 ∧ W.cell? ⟨b9, 3, none⟩ = some a3 ∧ W.cell? ⟨b9, 4, none⟩ = some a4 ∧ W.cell? ⟨b9, 5, none⟩ = some a5) ((W.setCell ⟨b6, 0, none⟩ u0).setCell ⟨b6, 1, none⟩ u1) := by
  have c11 := cell_S h.it.c11.1 h.it.ne u0 u1
  have cab := cell_S h.it.cab.1 (cells_ne h.it.cab.1 h.it.c6.1 (by decide)) u0 u1
  have c9 := cell_S h.it.c9.1 (cells_ne h.it.c9.1 h.it.c6.1 (by decide)) u0 u1
  exact ⟨⟨c11 0, c11 1, cab 0⟩, c9 0, c9 1, c9 2, c9 3, c9 4, c9 5⟩
omit [Xs] in
theorem RdW.empty {a : Option Addr} {n c : Nat} (h : RdW W (.slice a n c) []) : n = 0 := by
  obtain ⟨a', c', e, _⟩ := h.at
  injection e
set_option maxRecDepth 20000 in
set_option maxHeartbeats 8000000 in
theorem next_bn (h : Sp A w0 own w s [] m ks vt vu) (kind : Int) (t : Tk) (id : Nat) (oa ma : Option Addr) (on oc mn mc : Nat) (ro : RdBo w0 (.slice oa on oc) bo) (rm : RdBo w0 (.slice ma mn mc) bm) (hl : ks.length * 4 + 4 ≤ 140737488355328) (hbo : bo.length ≤ 9223372036854775807) (hbm : bm.length ≤ 9223372036854775807) (hno : ∀ i, i < ks.length → saidL bo i = false) :
    Calls Tryz.prog 25 #[ptr s, .agg #[vt, vu], .agg #[.int .i64 kind, .int .i64 t.k, .int .u32 t.s, .int .u32 t.v, .int .u32 id, .slice oa on oc, .slice ma mn mc]] w fun e w' => ∃ vt' vu' own', e = .returned (.tuple #[.agg #[vt', vu'], .bool true]) ∧ Aside (Sp A w0 own' w' s [] m [] vt' vu') := by
  obtain ⟨ta, tc, hvt, _, _, _⟩ := h.t.at
  obtain ⟨ua, uc, hvu, _, _, _, _⟩ := h.u.at
  have hbd := h.sc.bound
  obtain ⟨tn, htn⟩ : ∃ tn, tn = ([] : List Tk).length := ⟨_, rfl⟩
  obtain ⟨un, hun⟩ : ∃ un, un = ks.length := ⟨_, rfl⟩
  rw [← htn] at hvt
  rw [← hun] at hvu
  subst hvt hvu
  have P0 := Sr.start h [.int .i64 kind, .int .i64 t.k, .int .u32 t.s, .int .u32 t.v, .int .u32 id, .slice oa on oc, .slice ma mn mc]
  obtain ⟨W0, hW0⟩ : ∃ W0, W0 = ((w.alloc (.cells #[.slice ta tn tc, .slice ua un uc] 29)).alloc (.cells #[.int .i64 kind, .int .i64 t.k, .int .u32 t.s, .int .u32 t.v, .int .u32 id, .slice oa on oc, .slice ma mn mc] 38)).alloc (.cells #[.slice none 0 0, .slice none 0 0] 29) := ⟨_, rfl⟩
  rw [← hW0] at P0
  generalize give own w.heap.size 10 = own0 at P0
  obtain ⟨W1, hW1⟩ : ∃ W1, W1 = W0.alloc (.cells #[.slice none 0 0] 27) := ⟨_, rfl⟩
  have q1 : Sn (fun _ => False) own0 W0 (give own0 W0.heap.size 7) W1 := Sn.quiet (by rw [hW1]; exact (Keeps.refl _ _).alloc _) 7
  have P1 := Sr.sn P0 q1 (fun x => x) (fun x => x) (P0.it.sc.sn q1 (fun x => x) (fun _ _ x => x))
  have CA : Aside (CellsO (give own0 W0.heap.size 7) 7 W1 W0.heap.size 27 [.slice none 0 0]) := ⟨⟨by rw [hW1]; exact Cells.new _ _ _, give_new (Nat.le_refl _)⟩⟩
  generalize give own0 W0.heap.size 7 = own1 at P1 CA
  have HR := Aside.mk (And.intro ro rm)
  have HB := Aside.mk (And.intro hbd (And.intro htn hun))
  have hz : W0.heap.size = w.heap.size + 3 := by rw [hW0]; simp
  clear h htn hun hbd q1 ro rm P0
  go_enter Tryz.func25, Tryz.ntmps25
  go_upto_region 2 with fail
  rw [← hW0]
  obtain ⟨b4, hb4⟩ : ∃ b, Aside (b = w.heap.size) := ⟨_, ⟨rfl⟩⟩
  obtain ⟨b5, hb5⟩ : ∃ b, Aside (b = w.heap.size + 1) := ⟨_, ⟨rfl⟩⟩
  obtain ⟨b6, hb6⟩ : ∃ b, Aside (b = w.heap.size + 1 + 1) := ⟨_, ⟨rfl⟩⟩
  obtain ⟨ab, hab⟩ : ∃ b, Aside (b = W0.heap.size) := ⟨_, ⟨rfl⟩⟩
  rw [← hb6.it, ← hb5.it, ← hb4.it] at P1
  rw [← hab.it] at CA
  rw [show w.heap.size + 3 = ab from by rw [hab.it, hz], show w.heap.size + 2 = b6 from hb6.it.symm, ← hb5.it, ← hb4.it]
  rw [← hW1]
  clear hW0 hW1 hz
  have o0 := P1.it.c5.1.cell 0
  have o1 := P1.it.c5.1.cell 1
  have o2 := P1.it.c5.1.cell 2
  have o3 := P1.it.c5.1.cell 3
  have o4 := P1.it.c5.1.cell 4
  have o5 := P1.it.c5.1.cell 5
  have o6 := P1.it.c5.1.cell 6
  simp only [List.getElem?_cons_zero, List.getElem?_cons_succ] at o0 o1 o2 o3 o4 o5 o6
  have DA := Aside.mk (data_at (l := []) kind t id P1.it.sc.gr HR.it.1 HR.it.2 CA.it OwR.zero)
  have NX := Aside.mk (fun W ow (hh : Sc A w0 ow W s [] m ks) cb ob (dd : Dt w0 ow W cb ob ab [] (.slice oa on oc) (.slice ma mn mc) bo bm) => next_dn hh dd (by omega) hbo hbm hno)
  go_upto_region 3 with (first
    | (go_at_call 53; refine DA.it.mono ?_; rintro e w2 ⟨cb, ob, own2, rfl, D2, q2⟩; have P2 := Sr.sn P1 q2.it (fun x => x) (fun x => x) (P1.it.sc.sn q2.it (fun x => x) (fun _ _ x => x)))
    | (go_at_call 9; refine (NX.it w2 own2 P2.it.sc cb ob D2.it).mono ?_; rintro e w3 ⟨own3, rfl, hs3, D3, q3⟩)
    | fail)
  have P3 := Sr.sn P2 q3.it in8_9 in8_10 hs3.it
  clear o0 o1 o2 o3 o4 o5 o6 DA NX P1 P2 D2 CA q2 q3 hs3
  obtain ⟨w4, hw4⟩ : ∃ w4, w4 = w3.alloc (.cells #[.int .u8 0, .int .u8 0, .int .u16 0, .int .u32 0, .int .u32 0, .slice none 0 0] 47) := ⟨_, rfl⟩
  have q4 : Sn (fun _ => False) own3 w3 (give own3 w3.heap.size 10) w4 := Sn.quiet (by rw [hw4]; exact (Keeps.refl _ _).alloc _) 10
  have P4 := Sr.sn P3 q4 (fun x => x) (fun x => x) (P3.it.sc.sn q4 (fun x => x) (fun _ _ x => x))
  have D4 := Aside.mk (D3.it.sn q4 (fun x => x) (fun x => x) (fun x => x))
  have C9 : Aside (CellsO (give own3 w3.heap.size 10) 10 w4 w3.heap.size 47 [.int .u8 0, .int .u8 0, .int .u16 0, .int .u32 0, .int .u32 0, .slice none 0 0]) := ⟨⟨by rw [hw4]; exact Cells.new _ _ _, give_new (Nat.le_refl _)⟩⟩
  rw [← hw4]
  generalize give own3 w3.heap.size 10 = own4 at P4 D4 C9
  obtain ⟨b9, hb9⟩ : ∃ b, Aside (b = w3.heap.size) := ⟨_, ⟨rfl⟩⟩
  rw [← hb9.it] at C9 ⊢
  clear hw4 hb9 P3 D3 q4
  obtain ⟨d0, d1⟩ := Sr.cn2 P4
  have HT : Aside (tn = 0) := ⟨HB.it.2.1⟩
  rw [HT.it] at P4 d0
  rw [HT.it]
  have CT := Aside.mk (refControl0 ta ua tc un uc w4)
  go_upto_region 4 with (first | (go_at_call 26; refine CT.it.mono ?_; rintro e w5 ⟨rfl, k5⟩) | fail)
  obtain ⟨w7, hw7⟩ : ∃ w7, w7 = (w5.alloc (.cells #[.slice ta 0 tc, .slice ua un uc] 29)).alloc (.cells #[.int .u8 0, .int .u8 0, .int .u16 0, .int .u32 0, .int .u32 0] 44) := ⟨_, rfl⟩
  obtain ⟨aa, ac, own7, N7'⟩ := Nx.gather (hs := hz5) P4 D4 C9 k5.it (TN.same P4.it.t k5.it) (UN.same P4.it.u k5.it) hw7
  have N7 := Nx.any (G := fun _ => True) N7' trivial (fun _ _ _ _ => trivial)
  rw [← hw7]
  obtain ⟨b12, hb12⟩ : ∃ b, Aside (b = w5.heap.size + 1) := ⟨_, ⟨rfl⟩⟩
  obtain ⟨b11, hb11⟩ : ∃ b, Aside (b = w5.heap.size) := ⟨_, ⟨rfl⟩⟩
  rw [← hb12.it, ← hb11.it]
  rw [← hb11.it] at N7
  clear hw7 hb12 hb11 P4 D4 C9 CT d0 d1 k5 N7'
  go_upto_region 8 with fail
  have HU : Aside (un = ks.length) := ⟨HB.it.2.2⟩
  rw [← HU.it] at N7
  have HNO := Aside.mk hno
  have hun63 : (un : Int) ≤ 35184372088832 := by have := HU.it; omega
  clear hno HB HT
  go_loopw [14] (fun jv wr => ∃ (q : Nat) (own : Nat → Nat) (a : Option Addr) (n c : Nat), jv = .int .i64 q ∧ q ≤ un ∧ Aside (Nx A w0 own s [] m [] b5 b6 ab b9 b11 [.int .i64 kind, .int .i64 t.k, .int .u32 t.s, .int .u32 t.v, .int .u32 id, .slice oa on oc, .slice ma mn mc] [.int .u8 0, .int .u8 0, .int .u16 0, .int .u32 0, .int .u32 0, .slice none 0 0] (.slice aa un ac) ks (.slice oa on oc) (.slice ma mn mc) bo bm (.slice ta 0 tc) (.slice a n c) [] (ks.drop q) (fun _ => True) wr)) (fun jv _ => un - (intOf jv).toNat)
  case atStart => exact ⟨0, own7, ua, un, uc, rfl, Nat.zero_le _, N7⟩
  case round =>
    clear N7
    obtain ⟨q, own, a, n, c, rfl, hq, HN⟩ := hrel
    rcases Nat.eq_or_lt_of_le hq with rfl | hlt
    · have ed : ks.drop q = [] := List.drop_eq_nil_of_le (by rw [HU.it]; exact Nat.le_refl _)
      rw [ed] at HN
      obtain rfl := RdW.empty HN.it.u
      clear ed
      obtain ⟨⟨d0, d1, d2⟩, _⟩ := Nx.s9 HN
      go_upto_region 10 with (first | (go_at_call 54; refine (nx_first0 ta a 0 tc c HN).mono ?_; rintro e w8 ⟨rfl, N8'⟩) | fail)
      have N8 := Nx.any (G := Keeps Nowhere w8) N8' (Keeps.refl _ _) (fun _ _ k e => e.trans k)
      have N8d := Nx.quiet N8 (Keeps.refl _ _).drew
      clear N8' HN d0 d1 d2
      go_region_held3 (fun W => (W.cell? ⟨b11, 0, none⟩ = some (.slice ta 0 tc) ∧ W.cell? ⟨b11, 1, none⟩ = some (.slice a 0 c) ∧ W.cell? ⟨ab, 0, none⟩ = some (.slice aa q ac)) ∧ W.cell? ⟨b9, 0, none⟩ = some (.int .u8 0) ∧ W.cell? ⟨b9, 1, none⟩ = some (.int .u8 0) ∧ W.cell? ⟨b9, 2, none⟩ = some (.int .u16 0) ∧ W.cell? ⟨b9, 3, none⟩ = some (.int .u32 0) ∧ W.cell? ⟨b9, 4, none⟩ = some (.int .u32 0) ∧ W.cell? ⟨b9, 5, none⟩ = some (.slice none 0 0)) (first | with_reducible exact Nx.s9 (by with_reducible assumption) | with_reducible exact Nx.s9S (by with_reducible assumption)) (first
        | (go_at_call 27; refine (nx_same _ _ _ _ _ (by with_reducible assumption) (holds_no _) (holds_no _)).mono ?_; rintro e w9 ⟨rfl, N9⟩; obtain ⟨f0, f1, f2, f3⟩ := Nx.c62 N9)
        | fail)
      all_goals
        obtain ⟨y0, y1, E⟩ := Nx.fin N8 N9.it.f (vu' := .slice a 0 c) ⟨N9.it.u, fun b hb => .inl hb⟩
        clear f0 f1 f2 f3
        generalize (w9.setCell ⟨b6, 0, none⟩ (.slice ta 0 tc)).setCell ⟨b6, 1, none⟩ (.slice a 0 c) = V at y0 y1 E ⊢
        go_wp2
        refine bodyPost_ret (v := .tuple #[.agg #[.slice ta 0 tc, .slice a 0 c], .bool true]) (by simp [results, Tryz.results25, go_sem, y0, y1]) rfl ?_
        exact ⟨_, _, _, rfl, E⟩
    · obtain ⟨k, hk⟩ : ∃ k, ks[q]? = some k := ⟨_, List.getElem?_eq_getElem (by rw [← HU.it]; omega)⟩
      have HK := Aside.mk hk
      have ed : ks.drop q = k :: ks.drop (q + 1) := Sdat.drop_at hk
      rw [ed] at HN
      have HL : Aside ((k :: ks.drop (q + 1)).length * 4 ≤ 140737488355328) := ⟨by rw [← ed, List.length_drop]; omega⟩
      obtain ⟨_, _, ea, _, _, _, hra⟩ := HN.it.rab.at
      injection ea with ea1 ea2 ea3
      clear ea2
      subst ea1 ea3
      obtain ⟨xg, xo, rfl, hx⟩ := hra q k HK.it
      have SQ := Aside.mk (HNO.it q (by rw [← HU.it]; exact hlt))
      have i2 : (q : Int) < un := by omega
      have i3 : (0 : Int) ≤ q := by omega
      have i4 : (q : Int) ≤ 9223372036854775806 := by omega
      clear ed hra hk
      obtain ⟨⟨d0, d1, d2⟩, _⟩ := Nx.s9 HN
      go_upto_region 11 with (first | (go_at_call 54; refine (nx_first1 ta 0 tc k HN).mono ?_; rintro e w8 ⟨rfl, N8⟩) | fail)
      have hx8 : w8.cell? ⟨xg, xo + q, none⟩ = some (.int .u32 k) := by
        obtain ⟨_, _, ea, _, _, _, hra⟩ := N8.it.rab.at
        injection ea with ea1 _ ea3
        obtain ⟨g2, o2, e2, hc⟩ := hra q k (HK.it)
        rw [← ea1] at e2
        injection e2 with e2
        injection e2 with e3 e4
        subst e3 e4
        exact hc
      clear d0 d1 d2 HN hx
      obtain ⟨⟨d0, d1, d2⟩, _⟩ := Nx.s9 N8
      have o5 := N8.it.c5.1.cell 5
      simp only [List.getElem?_cons_zero, List.getElem?_cons_succ] at o5
      go_upto_region 15 with (first
        | (go_at_call 55; refine (nx_saidO hbo q (by omega) N8).mono ?_; rw [SQ.it]; rintro e w9 ⟨rfl, N9⟩)
        | fail)
      clear d0 d1 d2 o5 hx8 N8
      obtain ⟨⟨d0, d1, d2⟩, _⟩ := Nx.s9 N9
      have SV := Aside.mk (refServed (w := w9) ta 0 tc k false N9.it.u HL.it)
      go_upto_region 7 with (first
        | (go_at_call 56; refine SV.it.mono ?_; rintro e wb ⟨v', rfl, Ub, kb⟩; obtain ⟨a2, c2, hv2, _, _, _, _⟩ := Ub.it.1.at; generalize ((if (false : Bool) = true then ks.drop (q + 1) ++ [k] else ks.drop (q + 1)) : List Nat).length = n2 at hv2; subst hv2; have Nb := Nx.quiet N9 kb.it; obtain ⟨e0, e1⟩ : wb.cell? ⟨b11, 0, none⟩ = some (.slice ta 0 tc) ∧ wb.cell? ⟨b11, 1, none⟩ = some (.slice a n c) := ⟨Nb.it.c11.1.cell 0, Nb.it.c11.1.cell 1⟩; have g0 := Nb.it.c11.1.frozen 0; have g1 := Nb.it.c11.1.frozen 1)
        | fail)
      have Nc := Nx.put N9 kb.it (vu' := .slice a2 n2 c2) (K2 := ks.drop (q + 1)) Ub.it rfl rfl
      clear e0 e1 g0 g1 d0 d1 d2 SV Nb Ub kb N9
      generalize (wb.setCell ⟨b11, 0, none⟩ (.slice ta 0 tc)).setCell ⟨b11, 1, none⟩ (.slice a2 n2 c2) = wd at Nc ⊢
      generalize give own w9.heap.size 9 = ownc at Nc
      go_wp2
      go_roundw
      case rel => exact ⟨q + 1, ownc, a2, n2, c2, by go_num, by omega, Nc⟩
      case measure => simp [intOf]; omega
end Go.Proofs.YtmjnnpbhklfcbaaGreatDoor

/-
  SchedPlays: next while no ticket waits, and a stream has a frame
-/
namespace Go.Proofs.YtmjnnpbhklfcbaaGreatDoor
open Go.RowKit

variable {A : Nat → Addr} {w w' w0 W W7 : World} {own own' : Nat → Nat} {s m m' cb ob : Nat} {ks ks' K k1 l : List Nat} {L L' L1 : List Tk} {v vt vu vo vm x0 x1 y : Value} {b5 b6 ab b9 b11 b12 : Nat} {I : Nat → Prop} {cs fr : List Value} {bo bm : List Bool} {av : Value} {F : World → Prop}
variable [Xs]

/-- the document's scheduler is written over, the frame's bytes stay -/
theorem Nx.putC {vu' : Value} {K2 : List Nat} {g : Nat} {xs : List Value} (h : Aside (Nx A w0 own s L m K b5 b6 ab b9 b11 cs fr av l vo vm bo bm vt vu L1 k1 (fun V => Cells V g 5 xs) W)) (hk : Keeps Nowhere W w') (hs : Svd vu W.heap.size vu' K2 w') (s0 : isSl vt = true) (s1 : isSl vu = true) : Aside (Nx A w0 (give own W.heap.size 9) s L m K b5 b6 ab b9 b11 cs fr av l vo vm bo bm vt vu' L1 K2 (fun V => Cells V g 5 xs) ((w'.setCell ⟨b11, 0, none⟩ vt).setCell ⟨b11, 1, none⟩ vu')) := by
  have p := Nx.put (Nx.any (G := fun _ => True) h trivial (fun _ _ _ _ => trivial)) hk hs s0 s1
  have c := h.it.f.later hk (fun x => x)
  have c11 := h.it.c11.quiet hk
  exact Nx.any p (c.later (Bx2.outK w' b11 vt vu') (cells_ne c c11.1 (by decide))) (fun _ _ k e => e.later k (fun x => x))
theorem Nx.s10 {a0 a1 a2 a3 a4 a5 c0 c1 c2 c3 c4 c5 c6 : Value} (h : Aside (Nx A w0 own s L m K b5 b6 ab b9 b11 [c0, c1, c2, c3, c4, c5, c6] [a0, a1, a2, a3, a4, a5] av l vo vm bo bm vt vu L1 k1 F W)) :
    (W.cell? ⟨b11, 0, none⟩ = some vt ∧ W.cell? ⟨b11, 1, none⟩ = some vu ∧ W.cell? ⟨ab, 0, none⟩ = some av ∧ W.cell? ⟨b5, 6, none⟩ = some c6) ∧ W.cell? ⟨b9, 0, none⟩ = some a0 ∧ W.cell? ⟨b9, 1, none⟩ = some a1 ∧ W.cell? ⟨b9, 2, none⟩ = some a2 ∧ W.cell? ⟨b9, 3, none⟩ = some a3 ∧ W.cell? ⟨b9, 4, none⟩ = some a4 ∧ W.cell? ⟨b9, 5, none⟩ = some a5 :=
  ⟨⟨h.it.c11.1.cell 0, h.it.c11.1.cell 1, h.it.cab.1.cell 0, h.it.c5.1.cell 6⟩, h.it.c9.1.cell 0, h.it.c9.1.cell 1, h.it.c9.1.cell 2, h.it.c9.1.cell 3, h.it.c9.1.cell 4, h.it.c9.1.cell 5⟩
theorem Nx.s10S {u0 u1 a0 a1 a2 a3 a4 a5 c0 c1 c2 c3 c4 c5 c6 : Value} (h : Aside (Nx A w0 own s L m K b5 b6 ab b9 b11 [c0, c1, c2, c3, c4, c5, c6] [a0, a1, a2, a3, a4, a5] av l vo vm bo bm vt vu L1 k1 F W)) :
    (fun W : World => (W.cell? ⟨b11, 0, none⟩ = some vt ∧ W.cell? ⟨b11, 1, none⟩ = some vu ∧ W.cell? ⟨ab, 0, none⟩ = some av ∧ W.cell? ⟨b5, 6, none⟩ = some c6) ∧ W.cell? ⟨b9, 0, none⟩ = some a0 ∧ W.cell? ⟨b9, 1, none⟩ = some a1 ∧ W.cell? ⟨b9, 2, none⟩ = some a2 ∧ W.cell? ⟨b9, 3, none⟩ = some a3 ∧ W.cell? ⟨b9, 4, none⟩ = some a4 ∧ W.cell? ⟨b9, 5, none⟩ = some a5) ((W.setCell ⟨b6, 0, none⟩ u0).setCell ⟨b6, 1, none⟩ u1) := by
  have d11 := cell_S h.it.c11.1 h.it.ne u0 u1
  have dab := cell_S h.it.cab.1 (cells_ne h.it.cab.1 h.it.c6.1 (by decide)) u0 u1
  have d9 := cell_S h.it.c9.1 (cells_ne h.it.c9.1 h.it.c6.1 (by decide)) u0 u1
  have d5 := cell_S h.it.c5.1 (cells_ne h.it.c5.1 h.it.c6.1 (by decide)) u0 u1
  exact ⟨⟨d11 0, d11 1, dab 0, d5 6⟩, d9 0, d9 1, d9 2, d9 3, d9 4, d9 5⟩
theorem nx_same2 (p t f i n : Int) {x y : Int} {g g' : Nat} (h : Aside (Nx A w0 own s L m K b5 b6 ab b9 b11 cs fr av l vo vm bo bm vt vu L1 k1 F W)) (hF : F W → Cells W g 5 [.int .u8 x, .int .u8 y] ∧ Cells W g' 5 [.int .u8 x, .int .u8 y]) : Calls Tryz.prog 27 #[.agg #[.int .u8 p, .int .u8 t, .int .u16 f, .int .u32 i, .int .u32 n, .slice (some ⟨g, 0, none⟩) 2 2], .agg #[.int .u8 p, .int .u8 t, .int .u16 f, .int .u32 i, .int .u32 n, .slice (some ⟨g', 0, none⟩) 2 2]] W fun e w' => e = .returned (.bool true) ∧ Aside (Nx A w0 own s L m K b5 b6 ab b9 b11 cs fr av l vo vm bo bm vt vu L1 k1 F w') :=
  nx_same p t f i n h (holds_two (hF h.it.f).1) (holds_two (hF h.it.f).2)
set_option maxRecDepth 20000 in
set_option maxHeartbeats 8000000 in
theorem next_bs (h : Sp A w0 own w s [] m ks vt vu) (kind : Int) (t : Tk) (id : Nat) (oa ma : Option Addr) (on oc mn mc : Nat) (ro : RdBo w0 (.slice oa on oc) bo) (rm : RdBo w0 (.slice ma mn mc) bm) (hl : ks.length * 4 + 4 ≤ 140737488355328) (hbo : bo.length ≤ 9223372036854775807) (hbm : bm.length ≤ 9223372036854775807) (j kj : Nat) (hkj : ks[j]? = some kj) (hno : ∀ i, i < j → saidL bo i = false) (hyes : saidL bo j = true) (KK : List Nat) (hKK : KK = if saidL bm j then ks.drop (j + 1) ++ [kj] else ks.drop (j + 1)) :
    Calls Tryz.prog 25 #[ptr s, .agg #[vt, vu], .agg #[.int .i64 kind, .int .i64 t.k, .int .u32 t.s, .int .u32 t.v, .int .u32 id, .slice oa on oc, .slice ma mn mc]] w fun e w' => ∃ vt' vu' own', e = .returned (.tuple #[.agg #[vt', vu'], .bool true]) ∧ Aside (Sp A w0 own' w' s [] m KK vt' vu') := by
  obtain ⟨ta, tc, hvt, _, _, _⟩ := h.t.at
  obtain ⟨ua, uc, hvu, _, _, _, _⟩ := h.u.at
  have hbd := h.sc.bound
  obtain ⟨tn, htn⟩ : ∃ tn, tn = ([] : List Tk).length := ⟨_, rfl⟩
  obtain ⟨un, hun⟩ : ∃ un, un = ks.length := ⟨_, rfl⟩
  rw [← htn] at hvt
  rw [← hun] at hvu
  subst hvt hvu
  have P0 := Sr.start h [.int .i64 kind, .int .i64 t.k, .int .u32 t.s, .int .u32 t.v, .int .u32 id, .slice oa on oc, .slice ma mn mc]
  obtain ⟨W0, hW0⟩ : ∃ W0, W0 = ((w.alloc (.cells #[.slice ta tn tc, .slice ua un uc] 29)).alloc (.cells #[.int .i64 kind, .int .i64 t.k, .int .u32 t.s, .int .u32 t.v, .int .u32 id, .slice oa on oc, .slice ma mn mc] 38)).alloc (.cells #[.slice none 0 0, .slice none 0 0] 29) := ⟨_, rfl⟩
  rw [← hW0] at P0
  generalize give own w.heap.size 10 = own0 at P0
  obtain ⟨W1, hW1⟩ : ∃ W1, W1 = W0.alloc (.cells #[.slice none 0 0] 27) := ⟨_, rfl⟩
  have q1 : Sn (fun _ => False) own0 W0 (give own0 W0.heap.size 7) W1 := Sn.quiet (by rw [hW1]; exact (Keeps.refl _ _).alloc _) 7
  have P1 := Sr.sn P0 q1 (fun x => x) (fun x => x) (P0.it.sc.sn q1 (fun x => x) (fun _ _ x => x))
  have CA : Aside (CellsO (give own0 W0.heap.size 7) 7 W1 W0.heap.size 27 [.slice none 0 0]) := ⟨⟨by rw [hW1]; exact Cells.new _ _ _, give_new (Nat.le_refl _)⟩⟩
  generalize give own0 W0.heap.size 7 = own1 at P1 CA
  have HR := Aside.mk (And.intro ro rm)
  have HKK := Aside.mk hKK
  clear hKK
  have HB := Aside.mk (And.intro hbd (And.intro htn hun))
  have hz : W0.heap.size = w.heap.size + 3 := by rw [hW0]; simp
  clear h htn hun hbd q1 ro rm P0
  go_enter Tryz.func25, Tryz.ntmps25
  go_upto_region 2 with fail
  rw [← hW0]
  obtain ⟨b4, hb4⟩ : ∃ b, Aside (b = w.heap.size) := ⟨_, ⟨rfl⟩⟩
  obtain ⟨b5, hb5⟩ : ∃ b, Aside (b = w.heap.size + 1) := ⟨_, ⟨rfl⟩⟩
  obtain ⟨b6, hb6⟩ : ∃ b, Aside (b = w.heap.size + 1 + 1) := ⟨_, ⟨rfl⟩⟩
  obtain ⟨ab, hab⟩ : ∃ b, Aside (b = W0.heap.size) := ⟨_, ⟨rfl⟩⟩
  rw [← hb6.it, ← hb5.it, ← hb4.it] at P1
  rw [← hab.it] at CA
  rw [show w.heap.size + 3 = ab from by rw [hab.it, hz], show w.heap.size + 2 = b6 from hb6.it.symm, ← hb5.it, ← hb4.it]
  rw [← hW1]
  clear hW0 hW1 hz
  have o0 := P1.it.c5.1.cell 0
  have o1 := P1.it.c5.1.cell 1
  have o2 := P1.it.c5.1.cell 2
  have o3 := P1.it.c5.1.cell 3
  have o4 := P1.it.c5.1.cell 4
  have o5 := P1.it.c5.1.cell 5
  have o6 := P1.it.c5.1.cell 6
  simp only [List.getElem?_cons_zero, List.getElem?_cons_succ] at o0 o1 o2 o3 o4 o5 o6
  have DA := Aside.mk (data_at (l := []) kind t id P1.it.sc.gr HR.it.1 HR.it.2 CA.it OwR.zero)
  have NX := Aside.mk (fun W ow (hh : Sc A w0 ow W s [] m ks) cb ob (dd : Dt w0 ow W cb ob ab [] (.slice oa on oc) (.slice ma mn mc) bo bm) => next_ds hh dd (by omega) hbo hbm hkj hno hyes)
  go_upto_region 3 with (first
    | (go_at_call 53; refine DA.it.mono ?_; rintro e w2 ⟨cb, ob, own2, rfl, D2, q2⟩; have P2 := Sr.sn P1 q2.it (fun x => x) (fun x => x) (P1.it.sc.sn q2.it (fun x => x) (fun _ _ x => x)))
    | (go_at_call 9; refine (NX.it w2 own2 P2.it.sc cb ob D2.it).mono ?_; rintro e w3 ⟨own3, g, rfl, hs3, D3, q3, G3⟩; rw [← HKK.it] at hs3)
    | fail)
  have P3 := Sr.sn P2 q3.it in8_9 in8_10 hs3.it
  clear o0 o1 o2 o3 o4 o5 o6 DA NX P1 P2 D2 CA q2 q3 hs3
  obtain ⟨w4, hw4⟩ : ∃ w4, w4 = w3.alloc (.cells #[.int .u8 0, .int .u8 0, .int .u16 (flg j), .int .u32 kj, .int .u32 2, .slice (some ⟨g, 0, none⟩) 2 2] 47) := ⟨_, rfl⟩
  have q4 : Sn (fun _ => False) own3 w3 (give own3 w3.heap.size 10) w4 := Sn.quiet (by rw [hw4]; exact (Keeps.refl _ _).alloc _) 10
  have P4 := Sr.sn P3 q4 (fun x => x) (fun x => x) (P3.it.sc.sn q4 (fun x => x) (fun _ _ x => x))
  have D4 := Aside.mk (D3.it.sn q4 (fun x => x) (fun x => x) (fun x => x))
  have C9 : Aside (CellsO (give own3 w3.heap.size 10) 10 w4 w3.heap.size 47 [.int .u8 0, .int .u8 0, .int .u16 (flg j), .int .u32 kj, .int .u32 2, .slice (some ⟨g, 0, none⟩) 2 2]) := ⟨⟨by rw [hw4]; exact Cells.new _ _ _, give_new (Nat.le_refl _)⟩⟩
  have G4 : Aside (Cells w4 g 5 (fby kj j)) := ⟨(G3.it.sn q4 (fun x => x)).1⟩
  rw [← hw4]
  generalize give own3 w3.heap.size 10 = own4 at P4 D4 C9
  obtain ⟨b9, hb9⟩ : ∃ b, Aside (b = w3.heap.size) := ⟨_, ⟨rfl⟩⟩
  rw [← hb9.it] at C9 ⊢
  clear hw4 hb9 P3 D3 q4
  obtain ⟨d0, d1⟩ := Sr.cn2 P4
  have HT : Aside (tn = 0) := ⟨HB.it.2.1⟩
  rw [HT.it] at P4 d0
  rw [HT.it]
  have CT := Aside.mk (refControl0 ta ua tc un uc w4)
  go_upto_region 4 with (first | (go_at_call 26; refine CT.it.mono ?_; rintro e w5 ⟨rfl, k5⟩) | fail)
  obtain ⟨w7, hw7⟩ : ∃ w7, w7 = (w5.alloc (.cells #[.slice ta 0 tc, .slice ua un uc] 29)).alloc (.cells #[.int .u8 0, .int .u8 0, .int .u16 0, .int .u32 0, .int .u32 0] 44) := ⟨_, rfl⟩
  obtain ⟨aa, ac, own7, N7'⟩ := Nx.gather (hs := hz5) P4 D4 C9 k5.it (TN.same P4.it.t k5.it) (UN.same P4.it.u k5.it) hw7
  have G7 : Cells w7 g 5 (fby kj j) := by rw [hw7]; exact ((G4.it.later k5.it (fun x => x)).later ((Keeps.refl Nowhere _).alloc _) (fun x => x)).later ((Keeps.refl Nowhere _).alloc _) (fun x => x)
  have N7 := Nx.any (G := fun V => Cells V g 5 (fby kj j)) N7' G7 (fun _ _ k e => e.later k (fun x => x))
  rw [← hw7]
  obtain ⟨b12, hb12⟩ : ∃ b, Aside (b = w5.heap.size + 1) := ⟨_, ⟨rfl⟩⟩
  obtain ⟨b11, hb11⟩ : ∃ b, Aside (b = w5.heap.size) := ⟨_, ⟨rfl⟩⟩
  rw [← hb12.it, ← hb11.it]
  rw [← hb11.it] at N7
  clear hw7 hb12 hb11 P4 D4 C9 CT d0 d1 k5 N7' G7 G4 G3
  go_upto_region 8 with fail
  have HU : Aside (un = ks.length) := ⟨HB.it.2.2⟩
  have hjl : j < ks.length := (List.getElem?_eq_some_iff.1 hkj).1
  have HLT : Aside ((ks.take (j + 1)).length = j + 1) := ⟨by rw [List.length_take]; omega⟩
  rw [HLT.it] at N7
  have HNO := Aside.mk hno
  have HY := Aside.mk hyes
  have HKJ := Aside.mk hkj
  have hjn : j < un := by have := HU.it; omega
  have hun63 : (un : Int) ≤ 35184372088832 := by have := HU.it; omega
  clear hno HB HT hyes hkj hjl
  go_loopw [14] (fun jv wr => ∃ (q : Nat) (own : Nat → Nat) (a : Option Addr) (n c : Nat), jv = .int .i64 q ∧ q ≤ j ∧ Aside (Nx A w0 own s [] m KK b5 b6 ab b9 b11 [.int .i64 kind, .int .i64 t.k, .int .u32 t.s, .int .u32 t.v, .int .u32 id, .slice oa on oc, .slice ma mn mc] [.int .u8 0, .int .u8 0, .int .u16 (flg j), .int .u32 kj, .int .u32 2, .slice (some ⟨g, 0, none⟩) 2 2] (.slice aa (j + 1) ac) (ks.take (j + 1)) (.slice oa on oc) (.slice ma mn mc) bo bm (.slice ta 0 tc) (.slice a n c) [] (ks.drop q) (fun V => Cells V g 5 (fby kj j)) wr)) (fun jv _ => j - (intOf jv).toNat)
  case atStart => exact ⟨0, own7, ua, un, uc, rfl, Nat.zero_le _, N7⟩
  case round =>
    clear N7
    obtain ⟨q, own, a, n, c, rfl, hq, HN⟩ := hrel
    rcases Nat.eq_or_lt_of_le hq with rfl | hlt
    · obtain ⟨k, hk⟩ : ∃ k, ks[q]? = some k := ⟨_, List.getElem?_eq_getElem (by rw [← HU.it]; omega)⟩
      have HK := Aside.mk hk
      have ed : ks.drop q = k :: ks.drop (q + 1) := Sdat.drop_at hk
      rw [ed] at HN
      have HL : Aside ((k :: ks.drop (q + 1)).length * 4 ≤ 140737488355328) := ⟨by rw [← ed, List.length_drop]; omega⟩
      obtain ⟨_, _, ea, _, _, _, hra⟩ := HN.it.rab.at
      injection ea with ea1 ea2 ea3
      clear ea2
      subst ea1 ea3
      obtain ⟨xg, xo, rfl, hx⟩ := hra q k (show (ks.take (q + 1))[q]? = some k from by rw [List.getElem?_take, if_pos (by omega)]; exact HK.it)
      have SQ := Aside.mk (HY.it)
      have i2 : (q : Int) < un := by omega
      have i3 : (0 : Int) ≤ q := by omega
      have i4 : (q : Int) ≤ 9223372036854775806 := by omega
      have ekk : k = kj := Option.some.inj (HK.it.symm.trans HKJ.it)
      subst ekk
      have i5 : ¬ ((q : Int) + 1 ≤ q) := by omega
      clear ed hra hk
      obtain ⟨⟨d0, d1, d2⟩, _⟩ := Nx.s9 HN
      go_upto_region 11 with (first | (go_at_call 54; refine (nx_first1 ta 0 tc k HN).mono ?_; rintro e w8 ⟨rfl, N8⟩) | fail)
      have hx8 : w8.cell? ⟨xg, xo + q, none⟩ = some (.int .u32 k) := by
        obtain ⟨_, _, ea, _, _, _, hra⟩ := N8.it.rab.at
        injection ea with ea1 _ ea3
        obtain ⟨g2, o2, e2, hc⟩ := hra q k ((show (ks.take (q + 1))[q]? = some k from by rw [List.getElem?_take, if_pos (by omega)]; exact HK.it))
        rw [← ea1] at e2
        injection e2 with e2
        injection e2 with e3 e4
        subst e3 e4
        exact hc
      clear d0 d1 d2 HN hx
      obtain ⟨⟨d0, d1, d2⟩, _⟩ := Nx.s9 N8
      have o5 := N8.it.c5.1.cell 5
      simp only [List.getElem?_cons_zero, List.getElem?_cons_succ] at o5
      go_upto_region 14 with (first
        | (go_at_call 55; refine (nx_saidO hbo q (by omega) N8).mono ?_; rw [SQ.it]; rintro e w9 ⟨rfl, N9'⟩)
        | fail)
      have N9 := Nx.any (G := fun V => Keeps Nowhere w9 V ∧ Cells V g 5 (fby k q)) N9' ⟨Keeps.refl _ _, N9'.it.f⟩ (fun _ _ kk e => ⟨e.1.trans kk, e.2.later kk (fun x => x)⟩)
      have N9d := Nx.quiet N9 (Keeps.refl _ _).drew
      have hq63 : q ≤ 9223372036854775807 := by omega
      have eW : IntKind.i64.wrap ((q : Int) + 1) = (q : Int) + 1 := by rw [IntKind.wrap_i64]; omega
      have eB : ((q : Int) + 1 == IntKind.i64.wrap ((q : Int) + 1)) = true := by rw [eW]; exact beq_self_eq_true _
      clear d0 d1 d2 o5 hx8 N8 N9'
      go_region_held3 (fun W => (W.cell? ⟨b11, 0, none⟩ = some (.slice ta 0 tc) ∧ W.cell? ⟨b11, 1, none⟩ = some (.slice a n c) ∧ W.cell? ⟨ab, 0, none⟩ = some (.slice (some ⟨xg, xo, none⟩) (q + 1) ac) ∧ W.cell? ⟨b5, 6, none⟩ = some (.slice ma mn mc)) ∧ W.cell? ⟨b9, 0, none⟩ = some (.int .u8 0) ∧ W.cell? ⟨b9, 1, none⟩ = some (.int .u8 0) ∧ W.cell? ⟨b9, 2, none⟩ = some (.int .u16 (flg q)) ∧ W.cell? ⟨b9, 3, none⟩ = some (.int .u32 k) ∧ W.cell? ⟨b9, 4, none⟩ = some (.int .u32 2) ∧ W.cell? ⟨b9, 5, none⟩ = some (.slice (some ⟨g, 0, none⟩) 2 2)) (first | with_reducible exact Nx.s10 (by with_reducible assumption) | with_reducible exact Nx.s10S (by with_reducible assumption)) (first
        | (go_at_call 55; refine (nx_saidM hbm q hq63 (by with_reducible assumption)).mono ?_; rintro e wz ⟨rfl, Nz⟩; obtain ⟨f0, f1, f2, f3⟩ := Nx.c62 Nz)
        | (go_at_call 56; refine (nx_served w9.heap.size ta 0 tc k _ HL.it (by with_reducible assumption) (by intro V e; first | exact e.1.size | exact e.1.1.size | exact e.1.1.1.size)).mono ?_; rintro e wz ⟨ra, rn, rc, rfl, Nz⟩; obtain ⟨f0, f1, f2, f3⟩ := Nx.c62 Nz)
        | (go_at_call 11; refine (nx_framed k q (by with_reducible assumption)).mono ?_; rintro e wz ⟨g2, rfl, _, Nz⟩; obtain ⟨f0, f1, f2, f3⟩ := Nx.c62 Nz)
        | (go_at_call 27; refine (nx_same2 _ _ _ _ _ (by with_reducible assumption) (by intro e; first | exact ⟨e.1.2, e.2⟩ | exact ⟨e.1.1.2, e.2⟩ | exact ⟨e.1.1.2, e.1.2⟩)).mono ?_; rintro e wz ⟨rfl, Nz⟩; obtain ⟨f0, f1, f2, f3⟩ := Nx.c62 Nz)
        | fail)
      all_goals
        have hs : Svd (.slice a n c) w9.heap.size (.slice ra rn rc) KK wz := by rw [HKK.it]; first | exact Nz.it.f.2 | exact Nz.it.f.1.2
        have hkz : Keeps Nowhere w9 wz := Nz.it.f.1.1.1
        obtain ⟨y0, y1, E⟩ := Nx.fin N9 hkz hs
        clear f0 f1 f2 f3
        generalize (wz.setCell ⟨b6, 0, none⟩ (.slice ta 0 tc)).setCell ⟨b6, 1, none⟩ (.slice ra rn rc) = V at y0 y1 E ⊢
        go_wp2
        refine bodyPost_ret (v := .tuple #[.agg #[.slice ta 0 tc, .slice ra rn rc], .bool true]) (by simp [results, Tryz.results25, go_sem, y0, y1]) rfl ?_
        exact ⟨_, _, _, rfl, E⟩
    · obtain ⟨k, hk⟩ : ∃ k, ks[q]? = some k := ⟨_, List.getElem?_eq_getElem (by rw [← HU.it]; omega)⟩
      have HK := Aside.mk hk
      have ed : ks.drop q = k :: ks.drop (q + 1) := Sdat.drop_at hk
      rw [ed] at HN
      have HL : Aside ((k :: ks.drop (q + 1)).length * 4 ≤ 140737488355328) := ⟨by rw [← ed, List.length_drop]; omega⟩
      obtain ⟨_, _, ea, _, _, _, hra⟩ := HN.it.rab.at
      injection ea with ea1 ea2 ea3
      clear ea2
      subst ea1 ea3
      obtain ⟨xg, xo, rfl, hx⟩ := hra q k (show (ks.take (j + 1))[q]? = some k from by rw [List.getElem?_take, if_pos (by omega)]; exact HK.it)
      have SQ := Aside.mk (HNO.it q hlt)
      have i2 : (q : Int) < un := by omega
      have i3 : (0 : Int) ≤ q := by omega
      have i4 : (q : Int) ≤ 9223372036854775806 := by omega
      have i5 : (q : Int) < (j : Int) + 1 := by omega
      clear ed hra hk
      obtain ⟨⟨d0, d1, d2⟩, _⟩ := Nx.s9 HN
      go_upto_region 11 with (first | (go_at_call 54; refine (nx_first1 ta 0 tc k HN).mono ?_; rintro e w8 ⟨rfl, N8⟩) | fail)
      have hx8 : w8.cell? ⟨xg, xo + q, none⟩ = some (.int .u32 k) := by
        obtain ⟨_, _, ea, _, _, _, hra⟩ := N8.it.rab.at
        injection ea with ea1 _ ea3
        obtain ⟨g2, o2, e2, hc⟩ := hra q k ((show (ks.take (j + 1))[q]? = some k from by rw [List.getElem?_take, if_pos (by omega)]; exact HK.it))
        rw [← ea1] at e2
        injection e2 with e2
        injection e2 with e3 e4
        subst e3 e4
        exact hc
      clear d0 d1 d2 HN hx
      obtain ⟨⟨d0, d1, d2⟩, _⟩ := Nx.s9 N8
      have o5 := N8.it.c5.1.cell 5
      simp only [List.getElem?_cons_zero, List.getElem?_cons_succ] at o5
      go_upto_region 15 with (first
        | (go_at_call 55; refine (nx_saidO hbo q (by omega) N8).mono ?_; rw [SQ.it]; rintro e w9 ⟨rfl, N9⟩)
        | fail)
      clear d0 d1 d2 o5 hx8 N8
      obtain ⟨⟨d0, d1, d2⟩, _⟩ := Nx.s9 N9
      have SV := Aside.mk (refServed (w := w9) ta 0 tc k false N9.it.u HL.it)
      go_upto_region 7 with (first
        | (go_at_call 56; refine SV.it.mono ?_; rintro e wb ⟨v', rfl, Ub, kb⟩; obtain ⟨a2, c2, hv2, _, _, _, _⟩ := Ub.it.1.at; generalize ((if (false : Bool) = true then ks.drop (q + 1) ++ [k] else ks.drop (q + 1)) : List Nat).length = n2 at hv2; subst hv2; have Nb := Nx.quiet N9 kb.it; obtain ⟨e0, e1⟩ : wb.cell? ⟨b11, 0, none⟩ = some (.slice ta 0 tc) ∧ wb.cell? ⟨b11, 1, none⟩ = some (.slice a n c) := ⟨Nb.it.c11.1.cell 0, Nb.it.c11.1.cell 1⟩; have g0 := Nb.it.c11.1.frozen 0; have g1 := Nb.it.c11.1.frozen 1)
        | fail)
      have Nc := Nx.putC N9 kb.it (vu' := .slice a2 n2 c2) (K2 := ks.drop (q + 1)) Ub.it rfl rfl
      clear e0 e1 g0 g1 d0 d1 d2 SV Nb Ub kb N9
      generalize (wb.setCell ⟨b11, 0, none⟩ (.slice ta 0 tc)).setCell ⟨b11, 1, none⟩ (.slice a2 n2 c2) = wd at Nc ⊢
      generalize give own w9.heap.size 9 = ownc at Nc
      go_wp2
      go_roundw
      case rel => exact ⟨q + 1, ownc, a2, n2, c2, by go_num, by omega, Nc⟩
      case measure => simp [intOf]; omega

end Go.Proofs.YtmjnnpbhklfcbaaGreatDoor

