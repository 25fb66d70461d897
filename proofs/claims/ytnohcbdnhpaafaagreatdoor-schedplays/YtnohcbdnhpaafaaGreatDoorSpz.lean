import Derived.Test.YtnohcbdnhpaafaaGreatDoorSpy
import Derived.Deep.CutBlock
import Derived.Test.YtnohcbdnhpaafaaGreatDoorSwx
/-
  SchedPlays: next's world, behind the program's Next
-/
namespace Go.Proofs.YtnohcbdnhpaafaaGreatDoor
open Go.RowKit

variable {A : Nat → Addr} {w w' w0 W : World} {own own' : Nat → Nat} {s m m' : Nat} {ks ks' K k1 l : List Nat} {L L' L1 : List Tk} {v vt vu vo vm x0 x1 y : Value} {b5 b6 ab b9 b11 : Nat} {I : Nat → Prop} {cs fr : List Value} {bo bm : List Bool} {av : Value} {F : World → Prop}
variable [Xs]

omit [Xs] in
theorem Sc.gr (h : Sc A w0 own w s L m ks) : Ground w0.heap.size w0 own w := by
  obtain ⟨p, r, h⟩ := h
  exact h.ln.g.g
omit [Xs] in
theorem rdBo_at {bs : List Bool} (h : RdBo w0 v bs) (g : Ground w0.heap.size w0 own w) : RdBo w v bs := ReadsOff.below h g.bel
/-- behind Next: the scheduler, what was asked, the frame, the document's scheduler, its lists; and what else stays -/
structure Nx (A : Nat → Addr) (w0 : World) (own : Nat → Nat) (s : Nat) (L : List Tk) (m : Nat) (K : List Nat) (b5 b6 ab b9 b11 : Nat) (cs fr : List Value) (av : Value) (l : List Nat) (vo vm : Value) (bo bm : List Bool) (vt vu : Value) (L1 : List Tk) (k1 : List Nat) (F : World → Prop) (W : World) : Prop where
  sc : Sc A w0 own W s L m K
  c5 : CellsO own 10 W b5 38 cs
  c6 : CellsO own 10 W b6 29 [.slice none 0 0, .slice none 0 0]
  cab : CellsO own 7 W ab 27 [av]
  rab : RdW W av l
  c9 : CellsO own 10 W b9 47 fr
  c11 : CellsO own 10 W b11 29 [vt, vu]
  t : RdT W vt L1
  ot : O9 own W vt
  u : RdW W vu k1
  ou : O9 own W vu
  ro : RdBo w0 vo bo
  rm : RdBo w0 vm bm
  ne : b11 ≠ b6
  f : F W
  sf : ∀ W W', Keeps Nowhere W W' → F W → F W'
  x : X9 own W
theorem Nx.quiet (h : Aside (Nx A w0 own s L m K b5 b6 ab b9 b11 cs fr av l vo vm bo bm vt vu L1 k1 F W)) (k : Keeps Nowhere W w') : Aside (Nx A w0 own s L m K b5 b6 ab b9 b11 cs fr av l vo vm bo bm vt vu L1 k1 F w') :=
  ⟨⟨h.it.sc.quiet k, h.it.c5.quiet k, h.it.c6.quiet k, h.it.cab.quiet k, h.it.rab.quiet k, h.it.c9.quiet k, h.it.c11.quiet k, h.it.t.quiet k, h.it.ot.sn (I := fun _ => False) (Sn.same k), h.it.u.quiet k, h.it.ou.sn (I := fun _ => False) (Sn.same k), h.it.ro, h.it.rm, h.it.ne, h.it.sf _ _ k h.it.f, h.it.sf, h.it.x.quiet k⟩⟩
theorem Nx.plus {G : World → Prop} (h : Aside (Nx A w0 own s L m K b5 b6 ab b9 b11 cs fr av l vo vm bo bm vt vu L1 k1 F W)) (g : G W) (sg : ∀ W W', Keeps Nowhere W W' → G W → G W') : Aside (Nx A w0 own s L m K b5 b6 ab b9 b11 cs fr av l vo vm bo bm vt vu L1 k1 (fun W => F W ∧ G W) W) :=
  ⟨{ h.it with f := ⟨h.it.f, g⟩, sf := fun W W' k e => ⟨h.it.sf W W' k e.1, sg W W' k e.2⟩ }⟩
theorem nx_first0 (ta ua : Option Addr) (tn tc uc : Nat) (h : Aside (Nx A w0 own s L m K b5 b6 ab b9 b11 cs fr av l vo vm bo bm vt vu L1 k1 F W)) : Calls Tryz.prog 54 #[.agg #[.slice ta tn tc, .slice ua 0 uc]] W fun e w' => e = .returned (.tuple #[.int .u32 0, .bool false]) ∧ Aside (Nx A w0 own s L m K b5 b6 ab b9 b11 cs fr av l vo vm bo bm vt vu L1 k1 F w') :=
  (refFirst0 ta ua tn tc uc W).mono (by rintro e w' ⟨rfl, k⟩; exact ⟨rfl, Nx.quiet h k.it⟩)
theorem nx_first1 (ta : Option Addr) (tn tc k : Nat) {t : List Nat} (h : Aside (Nx A w0 own s L m K b5 b6 ab b9 b11 cs fr av l vo vm bo bm (.slice ta tn tc) vu L1 (k :: t) F W)) : Calls Tryz.prog 54 #[.agg #[.slice ta tn tc, vu]] W fun e w' => e = .returned (.tuple #[.int .u32 k, .bool true]) ∧ Aside (Nx A w0 own s L m K b5 b6 ab b9 b11 cs fr av l vo vm bo bm (.slice ta tn tc) vu L1 (k :: t) F w') :=
  (refFirst1 ta tn tc k h.it.u).mono (by rintro e w' ⟨rfl, k⟩; exact ⟨rfl, Nx.quiet h k.it⟩)
theorem nx_saidO (hb : bo.length ≤ 9223372036854775807) (j : Nat) (hj : j ≤ 9223372036854775807) (h : Aside (Nx A w0 own s L m K b5 b6 ab b9 b11 cs fr av l vo vm bo bm vt vu L1 k1 F W)) : Calls Tryz.prog 55 #[vo, .int .i64 j] W fun e w' => e = .returned (.bool (saidL bo j)) ∧ Aside (Nx A w0 own s L m K b5 b6 ab b9 b11 cs fr av l vo vm bo bm vt vu L1 k1 F w') :=
  (said_at vo bo (rdBo_at h.it.ro h.it.sc.gr) hb j hj).mono (by rintro e w' ⟨rfl, rfl⟩; exact ⟨rfl, h⟩)
theorem nx_saidM (hb : bm.length ≤ 9223372036854775807) (j : Nat) (hj : j ≤ 9223372036854775807) (h : Aside (Nx A w0 own s L m K b5 b6 ab b9 b11 cs fr av l vo vm bo bm vt vu L1 k1 F W)) : Calls Tryz.prog 55 #[vm, .int .i64 j] W fun e w' => e = .returned (.bool (saidL bm j)) ∧ Aside (Nx A w0 own s L m K b5 b6 ab b9 b11 cs fr av l vo vm bo bm vt vu L1 k1 F w') :=
  (said_at vm bm (rdBo_at h.it.rm h.it.sc.gr) hb j hj).mono (by rintro e w' ⟨rfl, rfl⟩; exact ⟨rfl, h⟩)
/-- what Served leaves -/
def Svd (vu : Value) (B : Nat) (v' : Value) (K2 : List Nat) (W : World) : Prop := RdW W v' K2 ∧ ∀ b, v'.ownBlock = some b → vu.ownBlock = some b ∨ (B ≤ b ∧ b < W.heap.size)
theorem nx_served (B0 : Nat) (ta : Option Addr) (tn tc k : Nat) {t : List Nat} (more : Bool) (hb : (k :: t).length * 4 ≤ 140737488355328) (h : Aside (Nx A w0 own s L m K b5 b6 ab b9 b11 cs fr av l vo vm bo bm (.slice ta tn tc) vu L1 (k :: t) F W)) (hF : ∀ V, F V → B0 ≤ V.heap.size) : Calls Tryz.prog 56 #[.agg #[.slice ta tn tc, vu], .bool more] W fun e w' => ∃ a n c, e = .returned (.agg #[.slice ta tn tc, .slice a n c]) ∧ Aside (Nx A w0 own s L m K b5 b6 ab b9 b11 cs fr av l vo vm bo bm (.slice ta tn tc) vu L1 (k :: t) (fun V => F V ∧ Svd vu B0 (.slice a n c) (if more then t ++ [k] else t) V) w') := by
  refine (refServed ta tn tc k more h.it.u hb).mono ?_
  rintro e w' ⟨v', rfl, U, kk⟩
  obtain ⟨a, c, e, _⟩ := U.it.1.at
  subst e
  have hs := hF W h.it.f
  exact ⟨a, _, c, rfl, Nx.plus (Nx.quiet h kk.it) ⟨U.it.1, fun b hb => (U.it.2 b hb).imp id (fun x => ⟨Nat.le_trans hs x.1, x.2⟩)⟩ (fun V V' k e => ⟨e.1.quiet k, fun b hb => (e.2 b hb).imp id (fun x => ⟨x.1, Nat.lt_of_lt_of_le x.2 k.size⟩)⟩)⟩
theorem nx_framed (id j : Nat) (h : Aside (Nx A w0 own s L m K b5 b6 ab b9 b11 cs fr av l vo vm bo bm vt vu L1 k1 F W)) : Calls Tryz.prog 11 #[.int .u32 id, .int .i64 j] W fun e w' => ∃ g, e = .returned (.agg #[.int .u8 0, .int .u8 0, .int .u16 (flg j), .int .u32 id, .int .u32 2, .slice (some ⟨g, 0, none⟩) 2 2]) ∧ Aside (Cells w' g 5 (fby id j)) ∧ Aside (Nx A w0 own s L m K b5 b6 ab b9 b11 cs fr av l vo vm bo bm vt vu L1 k1 (fun V => F V ∧ Cells V g 5 (fby id j)) w') := by
  refine (framed_at id j W).mono ?_
  rintro e w' ⟨g, rfl, c, k⟩
  exact ⟨g, rfl, ⟨c.it.2⟩, Nx.plus (Nx.quiet h k.it) c.it.2 (fun V V' k e => e.later k (fun x => x))⟩
omit [Xs] in
/-- the two bytes of a frame -/
theorem holds_two {g : Nat} {a c : Int} (h : Cells W g 5 [.int .u8 a, .int .u8 c]) : Holds .u8 W (.slice (some ⟨g, 0, none⟩) 2 2) [a, c] := by
  refine ⟨_, _, _, rfl, rfl, fun i hi => ⟨_, rfl, ?_⟩⟩
  rw [add_none, Nat.zero_add, h.cell]
  match i, hi with
  | 0, _ => rfl
  | 1, _ => rfl
omit [Xs] in
theorem holds_no (W : World) : Holds .u8 W (.slice none 0 0) [] := ⟨none, 0, 0, rfl, rfl, fun i hi => absurd hi (Nat.not_lt_zero i)⟩
theorem nx_same (p t f i n : Int) (h : Aside (Nx A w0 own s L m K b5 b6 ab b9 b11 cs fr av l vo vm bo bm vt vu L1 k1 F W)) {qa qb : Option Addr} {na nb ca cb : Nat} {d : List Int} (ha : Holds .u8 W (.slice qa na ca) d) (hb : Holds .u8 W (.slice qb nb cb) d) : Calls Tryz.prog 27 #[.agg #[.int .u8 p, .int .u8 t, .int .u16 f, .int .u32 i, .int .u32 n, .slice qa na ca], .agg #[.int .u8 p, .int .u8 t, .int .u16 f, .int .u32 i, .int .u32 n, .slice qb nb cb]] W fun e w' => e = .returned (.bool true) ∧ Aside (Nx A w0 own s L m K b5 b6 ab b9 b11 cs fr av l vo vm bo bm vt vu L1 k1 F w') :=
  (same_fr p t f i n qa qb na nb ca cb d ha hb).mono (by rintro e w' ⟨rfl, k⟩; exact ⟨rfl, Nx.quiet h k.it⟩)
/-- the answer is laid out -/
theorem Nx.fin {vu' : Value} (h : Aside (Nx A w0 own s L m K b5 b6 ab b9 b11 cs fr av l vo vm bo bm vt vu L k1 F W)) (hk : Keeps Nowhere W w') (hs : Svd vu W.heap.size vu' K w') :
    let V := (w'.setCell ⟨b6, 0, none⟩ vt).setCell ⟨b6, 1, none⟩ vu'
    V.cell? ⟨b6, 0, none⟩ = some vt ∧ V.cell? ⟨b6, 1, none⟩ = some vu' ∧ Aside (Sp A w0 (give own W.heap.size 9) V s L m K vt vu') := by
  intro V
  have q0 : Sn (fun _ => False) own W (give own W.heap.size 9) w' := Sn.quiet hk 9
  have c6 := h.it.c6.sn q0 (fun x => x)
  have q : Sn (fun k => k = 10) (give own W.heap.size 9) w' (give own W.heap.size 9) V := ⟨fun _ _ => rfl, ((Keeps.refl _ _).setCell _ _ (fun _ => c6.2)).setCell _ _ (fun _ => c6.2)⟩
  have c := (c6.1.setCell 0 vt).setCell 1 vu'
  have hot := h.it.ot.sn q0
  have hou : O9 (give own W.heap.size 9) w' vu' := h.it.ou.new hs.2 hk
  exact ⟨c.cell 0, c.cell 1, ⟨(h.it.sc.sn q0 (fun x => x) (fun _ _ x => x)).sn q (by decide) (fun k hk e => by have := hk.2; omega), reads_sn (h.it.t.quiet hk) hot q (by decide), hot.sn q, reads_sn hs.1 hou q (by decide), hou.sn q, (h.it.x.sn q0 (fun x => x)).sn q (by decide)⟩⟩
/-- the document's scheduler is written over -/
theorem Nx.put {vu' : Value} {K2 : List Nat} (h : Aside (Nx A w0 own s L m K b5 b6 ab b9 b11 cs fr av l vo vm bo bm vt vu L1 k1 (fun _ => True) W)) (hk : Keeps Nowhere W w') (hs : Svd vu W.heap.size vu' K2 w') (s0 : isSl vt = true) (s1 : isSl vu = true) : Aside (Nx A w0 (give own W.heap.size 9) s L m K b5 b6 ab b9 b11 cs fr av l vo vm bo bm vt vu' L1 K2 (fun _ => True) ((w'.setCell ⟨b11, 0, none⟩ vt).setCell ⟨b11, 1, none⟩ vu')) := by
  have q0 : Sn (fun _ => False) own W (give own W.heap.size 9) w' := Sn.quiet hk 9
  have c11 := h.it.c11.sn q0 (fun x => x)
  have q : Sn (fun k => k = 10) (give own W.heap.size 9) w' (give own W.heap.size 9) ((w'.setCell ⟨b11, 0, none⟩ vt).setCell ⟨b11, 1, none⟩ vu') := ⟨fun _ _ => rfl, ((Keeps.refl _ _).setCell _ _ (fun _ => c11.2)).setCell _ _ (fun _ => c11.2)⟩
  have kB : Keeps (fun c => c = b11) w' ((w'.setCell ⟨b11, 0, none⟩ vt).setCell ⟨b11, 1, none⟩ vu') := Bx2.outK w' b11 vt vu'
  have c := (c11.1.setCell 0 vt).setCell 1 vu'
  have hot := h.it.ot.sn q0
  have hou : O9 (give own W.heap.size 9) w' vu' := h.it.ou.new hs.2 hk
  have c5 := h.it.c5.sn q0 (fun x => x)
  have c6 := h.it.c6.sn q0 (fun x => x)
  have c9 := h.it.c9.sn q0 (fun x => x)
  have cab := h.it.cab.sn q0 (fun x => x)
  exact ⟨⟨(h.it.sc.sn q0 (fun x => x) (fun _ _ x => x)).sn q (by decide) (fun k hk e => by have := hk.2; omega), ⟨c5.1.later kB (cells_ne c5.1 c11.1 (by decide)), c5.2⟩, ⟨c6.1.later kB (Ne.symm h.it.ne), c6.2⟩, ⟨cab.1.later kB (cells_ne cab.1 c11.1 (by decide)), cab.2⟩, reads_off (h.it.rab.quiet hk) kB c11.1 (not_sl (uv_sl l) (fun z hz => by
    simp only [List.mem_cons, List.not_mem_nil, or_false] at hz
    rcases hz with rfl | rfl
    · exact s0
    · exact s1)), ⟨c9.1.later kB (cells_ne c9.1 c11.1 (by decide)), c9.2⟩, ⟨c, c11.2⟩, reads_sn (h.it.t.quiet hk) hot q (by decide), hot.sn q, reads_sn hs.1 hou q (by decide), hou.sn q, h.it.ro, h.it.rm, h.it.ne, trivial, fun _ _ _ _ => trivial, (h.it.x.sn q0 (fun x => x)).sn q (by decide)⟩⟩
end Go.Proofs.YtnohcbdnhpaafaaGreatDoor

/-
  SchedPlays: next while a ticket waits
-/
namespace Go.Proofs.YtnohcbdnhpaafaaGreatDoor
open Go.RowKit

variable {A : Nat → Addr} {w w' w0 W W7 : World} {own own' : Nat → Nat} {s m m' : Nat} {ks ks' K k1 l : List Nat} {L L' L1 : List Tk} {v vt vu vo vm x0 x1 y : Value} {b5 b6 ab b9 b11 b12 : Nat} {I : Nat → Prop} {cs fr : List Value} {bo bm : List Bool} {av : Value} {F : World → Prop}
variable [Xs]

omit [Xs] in
theorem cell_S {g : Nat} {T : TypeId} {xs : List Value} (hc : Cells W g T xs) (hne : g ≠ b6) (u0 u1 : Value) (j : Nat) : ((W.setCell ⟨b6, 0, none⟩ u0).setCell ⟨b6, 1, none⟩ u1).cell? ⟨g, j, none⟩ = xs[j]? := (hc.later (Bx2.outK W b6 u0 u1) hne).cell j
/-- what stays, with a header's box -/
def Kh (W7 : World) (b12 : Nat) (hs : List Value) (V : World) : Prop := Keeps Nowhere W7 V ∧ Cells V b12 44 hs
omit [Xs] in
theorem Kh.st {hs : List Value} : ∀ W W', Keeps Nowhere W W' → Kh W7 b12 hs W → Kh W7 b12 hs W' := fun _ _ k e => ⟨e.1.trans k, e.2.later k (fun x => x)⟩
theorem Nx.s14 {a0 a1 a2 a3 a4 a5 h0 h1 h2 h3 h4 : Value} (h : Aside (Nx A w0 own s L m K b5 b6 ab b9 b11 cs [a0, a1, a2, a3, a4, a5] av l vo vm bo bm vt vu L1 k1 (Kh W7 b12 [h0, h1, h2, h3, h4]) W)) :
    (W.cell? ⟨b11, 0, none⟩ = some vt ∧ W.cell? ⟨b11, 1, none⟩ = some vu ∧ W.cell? ⟨ab, 0, none⟩ = some av) ∧ (W.cell? ⟨b9, 0, none⟩ = some a0 ∧ W.cell? ⟨b9, 1, none⟩ = some a1 ∧ W.cell? ⟨b9, 2, none⟩ = some a2 ∧ W.cell? ⟨b9, 3, none⟩ = some a3 ∧ W.cell? ⟨b9, 4, none⟩ = some a4 ∧ W.cell? ⟨b9, 5, none⟩ = some a5) ∧ W.cell? ⟨b12, 0, none⟩ = some h0 ∧ W.cell? ⟨b12, 1, none⟩ = some h1 ∧ W.cell? ⟨b12, 2, none⟩ = some h2 ∧ W.cell? ⟨b12, 3, none⟩ = some h3 ∧ W.cell? ⟨b12, 4, none⟩ = some h4 :=
  ⟨⟨h.it.c11.1.cell 0, h.it.c11.1.cell 1, h.it.cab.1.cell 0⟩, ⟨h.it.c9.1.cell 0, h.it.c9.1.cell 1, h.it.c9.1.cell 2, h.it.c9.1.cell 3, h.it.c9.1.cell 4, h.it.c9.1.cell 5⟩, h.it.f.2.cell 0, h.it.f.2.cell 1, h.it.f.2.cell 2, h.it.f.2.cell 3, h.it.f.2.cell 4⟩
theorem Nx.s14S {u0 u1 a0 a1 a2 a3 a4 a5 h0 h1 h2 h3 h4 : Value} (h : Aside (Nx A w0 own s L m K b5 b6 ab b9 b11 cs [a0, a1, a2, a3, a4, a5] av l vo vm bo bm vt vu L1 k1 (Kh W7 b12 [h0, h1, h2, h3, h4]) W)) :
    (fun W : World => (W.cell? ⟨b11, 0, none⟩ = some vt ∧ W.cell? ⟨b11, 1, none⟩ = some vu ∧ W.cell? ⟨ab, 0, none⟩ = some av) ∧ (W.cell? ⟨b9, 0, none⟩ = some a0 ∧ W.cell? ⟨b9, 1, none⟩ = some a1 ∧ W.cell? ⟨b9, 2, none⟩ = some a2 ∧ W.cell? ⟨b9, 3, none⟩ = some a3 ∧ W.cell? ⟨b9, 4, none⟩ = some a4 ∧ W.cell? ⟨b9, 5, none⟩ = some a5) ∧ W.cell? ⟨b12, 0, none⟩ = some h0 ∧ W.cell? ⟨b12, 1, none⟩ = some h1 ∧ W.cell? ⟨b12, 2, none⟩ = some h2 ∧ W.cell? ⟨b12, 3, none⟩ = some h3 ∧ W.cell? ⟨b12, 4, none⟩ = some h4) ((W.setCell ⟨b6, 0, none⟩ u0).setCell ⟨b6, 1, none⟩ u1) := by
  have c11 := cell_S h.it.c11.1 h.it.ne u0 u1
  have cab := cell_S h.it.cab.1 (cells_ne h.it.cab.1 h.it.c6.1 (by decide)) u0 u1
  have c9 := cell_S h.it.c9.1 (cells_ne h.it.c9.1 h.it.c6.1 (by decide)) u0 u1
  have c12 := cell_S h.it.f.2 (cells_ne h.it.f.2 h.it.c6.1 (by decide)) u0 u1
  exact ⟨⟨c11 0, c11 1, cab 0⟩, ⟨c9 0, c9 1, c9 2, c9 3, c9 4, c9 5⟩, c12 0, c12 1, c12 2, c12 3, c12 4⟩
theorem Nx.c62 (h : Aside (Nx A w0 own s L m K b5 b6 ab b9 b11 cs fr av l vo vm bo bm vt vu L1 k1 F W)) : W.cell? ⟨b6, 0, none⟩ = some (.slice none 0 0) ∧ W.cell? ⟨b6, 1, none⟩ = some (.slice none 0 0) ∧ W.frozen? ⟨b6, 0, none⟩ = false ∧ W.frozen? ⟨b6, 1, none⟩ = false := ⟨h.it.c6.1.cell 0, h.it.c6.1.cell 1, h.it.c6.1.frozen 0, h.it.c6.1.frozen 1⟩
omit [Xs] in
theorem in6_0 : ¬ In6 0 := fun h => by have := h.1; omega
omit [Xs] in
theorem in6_7 : ¬ In6 7 := fun h => by have := h.2; omega
omit [Xs] in
theorem in6_8 : ¬ In6 8 := fun h => by have := h.2; omega
/-- behind Control: all is gathered -/
theorem Nx.gather {cb ob b4 : Nat} {vt' vu' : Value} {L2 : List Tk} {k2 : List Nat} {hs : List Value} {w4 w5 W7 : World} (P : Aside (Sr A w0 own w4 s L m K b5 b6 b4 cs vt vu L1 k1)) (D : Aside (Dt w0 own w4 cb ob ab l vo vm bo bm)) (C9 : Aside (CellsO own 10 w4 b9 47 fr)) (k5 : Keeps Nowhere w4 w5) (T5 : TN w4 w5 vt vt' L2) (U5 : UN w4 w5 vu vu' k2)
    (hW : W7 = (w5.alloc (.cells #[vt', vu'] 29)).alloc (.cells hs.toArray 44)) : ∃ aa ac own7, Aside (Nx A w0 own7 s L m K b5 b6 ab b9 w5.heap.size cs fr (.slice aa l.length ac) l vo vm bo bm vt' vu' L2 k2 (Kh W7 (w5.heap.size + 1) hs) W7) := by
  have P6 := Sr.doc P k5 T5 U5
  have qa : Sn (fun _ => False) own w4 (give own w4.heap.size 9) w5 := Sn.quiet k5 9
  have qb : Sn (fun _ => False) (give own w4.heap.size 9) w5 (give (give own w4.heap.size 9) w5.heap.size 10) (w5.alloc (.cells #[vt', vu'] 29)) := Sn.quiet ((Keeps.refl _ _).alloc _) 10
  have D6 := (D.it.sn qa (fun x => x) (fun x => x) (fun x => x)).sn qb (fun x => x) (fun x => x) (fun x => x)
  have C6 := (C9.it.sn qa (fun x => x)).sn qb (fun x => x)
  generalize give (give own w4.heap.size 9) w5.heap.size 10 = own6 at P6 D6 C6
  have k7 : Keeps Nowhere (w5.alloc (.cells #[vt', vu'] 29)) W7 := by rw [hW]; exact (Keeps.refl _ _).alloc _
  have qc : Sn (fun _ => False) own6 (w5.alloc (.cells #[vt', vu'] 29)) own6 W7 := Sn.same k7
  have P7 := Sr.quiet P6 k7
  have D7 := D6.sn qc (fun x => x) (fun x => x) (fun x => x)
  have C7 := C6.sn qc (fun x => x)
  have H7 : Cells W7 (w5.heap.size + 1) 44 hs := by
    have c := Cells.new (w5.alloc (.cells #[vt', vu'] 29)) 44 hs
    rw [World.size_alloc] at c
    rw [hW]
    exact c
  obtain ⟨v, hv, hr⟩ := D7.ab
  obtain ⟨aa, ac, rfl⟩ := owns_sl hr.1
  exact ⟨aa, ac, own6, ⟨⟨P7.it.sc, P7.it.c5, P7.it.c6, hv, owns_readsK hr.1, C7, P7.it.cn, P7.it.t, P7.it.ot, P7.it.u, P7.it.ou, D7.ro, D7.rm, P7.it.ne, ⟨Keeps.refl _ _, H7⟩, Kh.st, P7.it.x⟩⟩⟩
set_option maxRecDepth 20000 in
set_option maxHeartbeats 8000000 in
theorem next_a (tk : Tk) (h : Sp A w0 own w s (tk :: L) m ks vt vu) (kind : Int) (t : Tk) (id : Nat) (oa ma : Option Addr) (on oc mn mc : Nat) (ro : RdBo w0 (.slice oa on oc) bo) (rm : RdBo w0 (.slice ma mn mc) bm) (hm : m < 8796093022208) :
    Calls Tryz.prog 25 #[ptr s, .agg #[vt, vu], .agg #[.int .i64 kind, .int .i64 t.k, .int .u32 t.s, .int .u32 t.v, .int .u32 id, .slice oa on oc, .slice ma mn mc]] w fun e w' => ∃ vt' vu' own', e = .returned (.tuple #[.agg #[vt', vu'], .bool true]) ∧ Aside (Sp A w0 own' w' s L m ks vt' vu') := by
  obtain ⟨ta, tc, hvt, _, _, _⟩ := h.t.at
  obtain ⟨ua, uc, hvu, _, _, _, _⟩ := h.u.at
  have hbd := h.sc.bound
  have MAY := Aside.mk (h.sc.may tk (by simp))
  obtain ⟨tn, htn⟩ : ∃ tn, tn = (tk :: L).length := ⟨_, rfl⟩
  obtain ⟨un, hun⟩ : ∃ un, un = ks.length := ⟨_, rfl⟩
  rw [← htn] at hvt
  rw [← hun] at hvu
  subst hvt hvu
  have P0 := Sr.start h [.int .i64 kind, .int .i64 t.k, .int .u32 t.s, .int .u32 t.v, .int .u32 id, .slice oa on oc, .slice ma mn mc]
  obtain ⟨W0, hW0⟩ : ∃ W0, W0 = ((w.alloc (.cells #[.slice ta tn tc, .slice ua un uc] 29)).alloc (.cells #[.int .i64 kind, .int .i64 t.k, .int .u32 t.s, .int .u32 t.v, .int .u32 id, .slice oa on oc, .slice ma mn mc] 38)).alloc (.cells #[.slice none 0 0, .slice none 0 0] 29) := ⟨_, rfl⟩
  rw [← hW0] at P0
  generalize give own w.heap.size 10 = own0 at P0
  obtain ⟨W1, hW1⟩ : ∃ W1, W1 = W0.alloc (.cells #[.slice none 0 0] 27) := ⟨_, rfl⟩
  have q1 : Sn (fun _ => False) own0 W0 (give own0 W0.heap.size 7) W1 := Sn.quiet (by rw [hW1]; exact (Keeps.refl _ _).alloc _) 7
  have P1 := Sr.sn P0 q1 (fun x => x) (fun x => x) (P0.it.sc.sn q1 (fun x => x) (fun _ _ x => x))
  have CA : Aside (CellsO (give own0 W0.heap.size 7) 7 W1 W0.heap.size 27 [.slice none 0 0]) := ⟨⟨by rw [hW1]; exact Cells.new _ _ _, give_new (Nat.le_refl _)⟩⟩
  generalize give own0 W0.heap.size 7 = own1 at P1 CA
  have HR := Aside.mk (And.intro ro rm)
  have HB := Aside.mk (And.intro hbd (And.intro htn hun))
  have hz : W0.heap.size = w.heap.size + 3 := by rw [hW0]; simp
  clear h htn hun hbd q1 ro rm P0
  go_enter Tryz.func25, Tryz.ntmps25
  go_upto_region 2 with fail
  rw [← hW0]
  obtain ⟨b4, hb4⟩ : ∃ b, Aside (b = w.heap.size) := ⟨_, ⟨rfl⟩⟩
  obtain ⟨b5, hb5⟩ : ∃ b, Aside (b = w.heap.size + 1) := ⟨_, ⟨rfl⟩⟩
  obtain ⟨b6, hb6⟩ : ∃ b, Aside (b = w.heap.size + 1 + 1) := ⟨_, ⟨rfl⟩⟩
  obtain ⟨ab, hab⟩ : ∃ b, Aside (b = W0.heap.size) := ⟨_, ⟨rfl⟩⟩
  rw [← hb6.it, ← hb5.it, ← hb4.it] at P1
  rw [← hab.it] at CA
  rw [show w.heap.size + 3 = ab from by rw [hab.it, hz], show w.heap.size + 2 = b6 from hb6.it.symm, ← hb5.it, ← hb4.it]
  rw [← hW1]
  clear hW0 hW1 hz
  have o0 := P1.it.c5.1.cell 0
  have o1 := P1.it.c5.1.cell 1
  have o2 := P1.it.c5.1.cell 2
  have o3 := P1.it.c5.1.cell 3
  have o4 := P1.it.c5.1.cell 4
  have o5 := P1.it.c5.1.cell 5
  have o6 := P1.it.c5.1.cell 6
  simp only [List.getElem?_cons_zero, List.getElem?_cons_succ] at o0 o1 o2 o3 o4 o5 o6
  have DA := Aside.mk (data_at (l := []) kind t id P1.it.sc.gr HR.it.1 HR.it.2 CA.it OwR.zero)
  have NX := Aside.mk (fun W ow (hh : Sc A w0 ow W s (tk :: L) m ks) fv => next_tk tk hh (by omega) fv)
  go_upto_region 3 with (first
    | (go_at_call 53; refine DA.it.mono ?_; rintro e w2 ⟨cb, ob, own2, rfl, D2, q2⟩; have P2 := Sr.sn P1 q2.it (fun x => x) (fun x => x) (P1.it.sc.sn q2.it (fun x => x) (fun _ _ x => x)))
    | (go_at_call 9; refine (NX.it w2 own2 P2.it.sc _).mono ?_; rintro e w3 ⟨own3, rfl, hs3, q3⟩)
    | fail)
  have P3 := Sr.sn P2 q3.it in6_9 in6_10 hs3.it
  have D3 := Aside.mk (D2.it.sn q3.it in6_0 in6_7 in6_8)
  clear o0 o1 o2 o3 o4 o5 o6 DA NX P1 P2 D2 CA q2 q3 hs3
  obtain ⟨w4, hw4⟩ : ∃ w4, w4 = w3.alloc (.cells #[.int .u8 0, .int .u8 (shF tk.k.toNat), .int .u16 (shG tk.k.toNat), .int .u32 tk.s, .int .u32 tk.v, .slice none 0 0] 47) := ⟨_, rfl⟩
  have q4 : Sn (fun _ => False) own3 w3 (give own3 w3.heap.size 10) w4 := Sn.quiet (by rw [hw4]; exact (Keeps.refl _ _).alloc _) 10
  have P4 := Sr.sn P3 q4 (fun x => x) (fun x => x) (P3.it.sc.sn q4 (fun x => x) (fun _ _ x => x))
  have D4 := Aside.mk (D3.it.sn q4 (fun x => x) (fun x => x) (fun x => x))
  have C9 : Aside (CellsO (give own3 w3.heap.size 10) 10 w4 w3.heap.size 47 [.int .u8 0, .int .u8 (shF tk.k.toNat), .int .u16 (shG tk.k.toNat), .int .u32 tk.s, .int .u32 tk.v, .slice none 0 0]) := ⟨⟨by rw [hw4]; exact Cells.new _ _ _, give_new (Nat.le_refl _)⟩⟩
  rw [← hw4]
  generalize give own3 w3.heap.size 10 = own4 at P4 D4 C9
  obtain ⟨b9, hb9⟩ : ∃ b, Aside (b = w3.heap.size) := ⟨_, ⟨rfl⟩⟩
  rw [← hb9.it] at C9 ⊢
  clear hw4 hb9 P3 D3 q4
  obtain ⟨d0, d1⟩ := Sr.cn2 P4
  have CT := Aside.mk (refControl1 (w := w4) tk ua un uc P4.it.t MAY.it (by have := HB.it.1; omega))
  go_upto_region 4 with (first | (go_at_call 26; refine CT.it.mono ?_; rintro e w5 ⟨v1, rfl, T5, k5⟩; obtain ⟨h0, h2, hv1, _, _, _⟩ := T5.it.1.at; generalize L.length = h1 at hv1; subst hv1) | fail)
  obtain ⟨w7, hw7⟩ : ∃ w7, w7 = (w5.alloc (.cells #[.slice h0 h1 h2, .slice ua un uc] 29)).alloc (.cells #[.int .u8 0, .int .u8 (shF tk.k.toNat), .int .u16 (shG tk.k.toNat), .int .u32 tk.s, .int .u32 tk.v] 44) := ⟨_, rfl⟩
  obtain ⟨aa, ac, own7, N7⟩ := Nx.gather (hs := [.int .u8 0, .int .u8 (shF tk.k.toNat), .int .u16 (shG tk.k.toNat), .int .u32 tk.s, .int .u32 tk.v]) P4 D4 C9 k5.it T5.it (UN.same P4.it.u k5.it) hw7
  rw [← hw7]
  obtain ⟨b12, hb12⟩ : ∃ b, Aside (b = w5.heap.size + 1) := ⟨_, ⟨rfl⟩⟩
  obtain ⟨b11, hb11⟩ : ∃ b, Aside (b = w5.heap.size) := ⟨_, ⟨rfl⟩⟩
  rw [← hb12.it, ← hb11.it] at N7 ⊢
  clear hw7 hb12 hb11 P4 D4 C9 CT d0 d1 T5 k5
  have N7d := Nx.quiet N7 (Keeps.refl _ _).drew
  go_upto_region 5 with fail
  go_region_held3 (fun W => (W.cell? ⟨b11, 0, none⟩ = some (.slice h0 h1 h2) ∧ W.cell? ⟨b11, 1, none⟩ = some (.slice ua un uc) ∧ W.cell? ⟨ab, 0, none⟩ = some (.slice aa ([] : List Nat).length ac)) ∧ (W.cell? ⟨b9, 0, none⟩ = some (.int .u8 0) ∧ W.cell? ⟨b9, 1, none⟩ = some (.int .u8 (shF tk.k.toNat)) ∧ W.cell? ⟨b9, 2, none⟩ = some (.int .u16 (shG tk.k.toNat)) ∧ W.cell? ⟨b9, 3, none⟩ = some (.int .u32 tk.s) ∧ W.cell? ⟨b9, 4, none⟩ = some (.int .u32 tk.v) ∧ W.cell? ⟨b9, 5, none⟩ = some (.slice none 0 0)) ∧ W.cell? ⟨b12, 0, none⟩ = some (.int .u8 0) ∧ W.cell? ⟨b12, 1, none⟩ = some (.int .u8 (shF tk.k.toNat)) ∧ W.cell? ⟨b12, 2, none⟩ = some (.int .u16 (shG tk.k.toNat)) ∧ W.cell? ⟨b12, 3, none⟩ = some (.int .u32 tk.s) ∧ W.cell? ⟨b12, 4, none⟩ = some (.int .u32 tk.v)) (first | with_reducible exact Nx.s14 (by with_reducible assumption) | with_reducible exact Nx.s14S (by with_reducible assumption)) (first
    | (go_at_call 27; refine (nx_same _ _ _ _ _ (by with_reducible assumption) (holds_no _) (holds_no _)).mono ?_; rintro e w8 ⟨rfl, N8⟩; obtain ⟨f0, f1, f2, f3⟩ := Nx.c62 N8)
    | fail)
  all_goals
    obtain ⟨y0, y1, E⟩ := Nx.fin N7 N8.it.f.1 (vu' := .slice ua un uc) ⟨N8.it.u, fun b hb => .inl hb⟩
    clear f0 f1 f2 f3
    generalize (w8.setCell ⟨b6, 0, none⟩ (.slice h0 h1 h2)).setCell ⟨b6, 1, none⟩ (.slice ua un uc) = V at y0 y1 E ⊢
    go_wp2
    refine bodyPost_ret (v := .tuple #[.agg #[.slice h0 h1 h2, .slice ua un uc], .bool true]) (by simp [results, Tryz.results25, go_sem, y0, y1]) rfl ?_
    exact ⟨_, _, _, rfl, E⟩
end Go.Proofs.YtnohcbdnhpaafaaGreatDoor

/-
  SchedPlays: next while no ticket waits
-/
namespace Go.Proofs.YtnohcbdnhpaafaaGreatDoor
open Go.RowKit

variable {A : Nat → Addr} {w w' w0 W W7 : World} {own own' : Nat → Nat} {s m m' cb ob : Nat} {ks ks' K k1 l : List Nat} {L L' L1 : List Tk} {v vt vu vo vm x0 x1 y : Value} {b5 b6 ab b9 b11 b12 : Nat} {I : Nat → Prop} {cs fr : List Value} {bo bm : List Bool} {av : Value} {F : World → Prop}
variable [Xs]

omit [Xs] in
theorem in8_9 : ¬ Sdat.In8 9 := fun h => by have := h.2; omega
omit [Xs] in
theorem in8_10 : ¬ Sdat.In8 10 := fun h => by have := h.2; omega
omit [Xs] in
theorem least_yes (p : Nat → Bool) (n : Nat) : ∃ j, j ≤ n ∧ (∀ i, i < j → p i = false) ∧ (j < n → p j = true) := by
  induction n with
  | zero => exact ⟨0, Nat.le_refl _, fun i h => absurd h (Nat.not_lt_zero i), fun h => absurd h (Nat.lt_irrefl _)⟩
  | succ n ih =>
    obtain ⟨j, h1, h2, h3⟩ := ih
    by_cases hj : j < n
    · exact ⟨j, by omega, h2, fun _ => h3 hj⟩
    · obtain rfl : j = n := by omega
      cases hp : p j with
      | true => exact ⟨j, by omega, h2, fun _ => hp⟩
      | false => exact ⟨j + 1, Nat.le_refl _, fun i hi => by
          rcases Nat.lt_or_ge i j with h | h
          · exact h2 i h
          · obtain rfl : i = j := by omega
            exact hp, fun h => absurd h (Nat.lt_irrefl _)⟩
omit [Xs] in
/-- nobody has a frame -/
theorem next_dn (h : Sc A w0 own w s [] m ks) (d : Dt w0 own w cb ob ab [] vo vm bo bm) (hl : ks.length * 4 ≤ 140737488355328) (hbo : bo.length ≤ 9223372036854775807) (hbm : bm.length ≤ 9223372036854775807) (hno : ∀ i, i < ks.length → saidL bo i = false) :
    Calls Tryz.prog 9 #[ptr s, .func (.func 79) #[] #[ptr cb, ptr ob]] w fun e w' => ∃ own', e = .returned (.tuple #[.agg #[.int .u8 0, .int .u8 0, .int .u16 0, .int .u32 0, .int .u32 0, .slice none 0 0], .bool false]) ∧ Aside (Sc A w0 own' w' s [] m []) ∧ Aside (Dt w0 own' w' cb ob ab ks vo vm bo bm) ∧ Aside (Sn Sdat.In8 own w own' w') := by
  refine (Sdat.next_data (datOk ks.length hl hbo hbm) h d (Nat.le_refl _) (by omega) ks.length (Nat.le_refl _) (fun i k hi _ => hno i hi) (fun k hk => by rw [List.getElem?_eq_none (Nat.le_refl _)] at hk; cases hk)).mono ?_
  rintro e w' ⟨own', q, h⟩
  rcases h with ⟨_, rfl, h⟩ | ⟨k', g, hk, _⟩
  · exact ⟨own', rfl, ⟨h.it.1⟩, ⟨h.it.2⟩, q⟩
  · rw [List.getElem?_eq_none (Nat.le_refl _)] at hk
    cases hk
omit [Xs] in
/-- the j-th has one -/
theorem next_ds {k j : Nat} (h : Sc A w0 own w s [] m ks) (d : Dt w0 own w cb ob ab [] vo vm bo bm) (hl : ks.length * 4 ≤ 140737488355328) (hbo : bo.length ≤ 9223372036854775807) (hbm : bm.length ≤ 9223372036854775807) (hk : ks[j]? = some k) (hno : ∀ i, i < j → saidL bo i = false) (hyes : saidL bo j = true) :
    Calls Tryz.prog 9 #[ptr s, .func (.func 79) #[] #[ptr cb, ptr ob]] w fun e w' => ∃ own' g, e = .returned (.tuple #[.agg #[.int .u8 0, .int .u8 0, .int .u16 (flg j), .int .u32 k, .int .u32 2, .slice (some ⟨g, 0, none⟩) 2 2], .bool true]) ∧ Aside (Sc A w0 own' w' s [] m (if saidL bm j then ks.drop (j + 1) ++ [k] else ks.drop (j + 1))) ∧ Aside (Dt w0 own' w' cb ob ab (ks.take (j + 1)) vo vm bo bm) ∧ Aside (Sn Sdat.In8 own w own' w') ∧ Aside (CellsO own' 9 w' g 5 (fby k j)) := by
  have hjl : j < ks.length := (List.getElem?_eq_some_iff.1 hk).1
  refine (Sdat.next_data (datOk ks.length hl hbo hbm) h d (Nat.le_refl _) (by omega) j (by omega) (fun i k hi _ => hno i hi) (fun k _ => hyes)).mono ?_
  rintro e w' ⟨own', q, h⟩
  rcases h with ⟨hj, _⟩ | ⟨k', g, hk', rfl, h⟩
  · omega
  · obtain rfl : k = k' := Option.some.inj (hk.symm.trans hk')
    exact ⟨own', g, rfl, ⟨h.it.1⟩, ⟨h.it.2.1⟩, q, ⟨h.it.2.2⟩⟩
theorem Nx.any {G : World → Prop} (h : Aside (Nx A w0 own s L m K b5 b6 ab b9 b11 cs fr av l vo vm bo bm vt vu L1 k1 F W)) (g : G W) (sg : ∀ W W', Keeps Nowhere W W' → G W → G W') : Aside (Nx A w0 own s L m K b5 b6 ab b9 b11 cs fr av l vo vm bo bm vt vu L1 k1 G W) := ⟨{ h.it with f := g, sf := sg }⟩
theorem Nx.s9 {a0 a1 a2 a3 a4 a5 : Value} (h : Aside (Nx A w0 own s L m K b5 b6 ab b9 b11 cs [a0, a1, a2, a3, a4, a5] av l vo vm bo bm vt vu L1 k1 F W)) :
    (W.cell? ⟨b11, 0, none⟩ = some vt ∧ W.cell? ⟨b11, 1, none⟩ = some vu ∧ W.cell? ⟨ab, 0, none⟩ = some av) ∧ W.cell? ⟨b9, 0, none⟩ = some a0 ∧ W.cell? ⟨b9, 1, none⟩ = some a1 ∧ W.cell? ⟨b9, 2, none⟩ = some a2 ∧ W.cell? ⟨b9, 3, none⟩ = some a3 ∧ W.cell? ⟨b9, 4, none⟩ = some a4 ∧ W.cell? ⟨b9, 5, none⟩ = some a5 :=
  ⟨⟨h.it.c11.1.cell 0, h.it.c11.1.cell 1, h.it.cab.1.cell 0⟩, h.it.c9.1.cell 0, h.it.c9.1.cell 1, h.it.c9.1.cell 2, h.it.c9.1.cell 3, h.it.c9.1.cell 4, h.it.c9.1.cell 5⟩
theorem Nx.s9S {u0 u1 a0 a1 a2 a3 a4 a5 : Value} (h : Aside (Nx A w0 own s L m K b5 b6 ab b9 b11 cs [a0, a1, a2, a3, a4, a5] av l vo vm bo bm vt vu L1 k1 F W)) :
    (fun W : World => (W.cell? ⟨b11, 0, none⟩ = some vt ∧ W.cell? ⟨b11, 1, none⟩ = some vu ∧ W.cell? ⟨ab, 0, none⟩ = some av) ∧ W.cell? ⟨b9, 0, none⟩ = some a0 ∧ W.cell? ⟨b9, 1, none⟩ = some a1 ∧ W.cell? ⟨b9, 2, none⟩ = some a2 ∧ W.cell? ⟨b9, 3, none⟩ = some a3 ∧ W.cell? ⟨b9, 4, none⟩ = some a4 ∧ W.cell? ⟨b9, 5, none⟩ = some a5) ((W.setCell ⟨b6, 0, none⟩ u0).setCell ⟨b6, 1, none⟩ u1) := by
  have c11 := cell_S h.it.c11.1 h.it.ne u0 u1
  have cab := cell_S h.it.cab.1 (cells_ne h.it.cab.1 h.it.c6.1 (by decide)) u0 u1
  have c9 := cell_S h.it.c9.1 (cells_ne h.it.c9.1 h.it.c6.1 (by decide)) u0 u1
  exact ⟨⟨c11 0, c11 1, cab 0⟩, c9 0, c9 1, c9 2, c9 3, c9 4, c9 5⟩
omit [Xs] in
theorem RdW.empty {a : Option Addr} {n c : Nat} (h : RdW W (.slice a n c) []) : n = 0 := by
  obtain ⟨a', c', e, _⟩ := h.at
  injection e
set_option maxRecDepth 20000 in
set_option maxHeartbeats 8000000 in
theorem next_bn (h : Sp A w0 own w s [] m ks vt vu) (kind : Int) (t : Tk) (id : Nat) (oa ma : Option Addr) (on oc mn mc : Nat) (ro : RdBo w0 (.slice oa on oc) bo) (rm : RdBo w0 (.slice ma mn mc) bm) (hl : ks.length * 4 + 4 ≤ 140737488355328) (hbo : bo.length ≤ 9223372036854775807) (hbm : bm.length ≤ 9223372036854775807) (hno : ∀ i, i < ks.length → saidL bo i = false) :
    Calls Tryz.prog 25 #[ptr s, .agg #[vt, vu], .agg #[.int .i64 kind, .int .i64 t.k, .int .u32 t.s, .int .u32 t.v, .int .u32 id, .slice oa on oc, .slice ma mn mc]] w fun e w' => ∃ vt' vu' own', e = .returned (.tuple #[.agg #[vt', vu'], .bool true]) ∧ Aside (Sp A w0 own' w' s [] m [] vt' vu') := by
  obtain ⟨ta, tc, hvt, _, _, _⟩ := h.t.at
  obtain ⟨ua, uc, hvu, _, _, _, _⟩ := h.u.at
  have hbd := h.sc.bound
  obtain ⟨tn, htn⟩ : ∃ tn, tn = ([] : List Tk).length := ⟨_, rfl⟩
  obtain ⟨un, hun⟩ : ∃ un, un = ks.length := ⟨_, rfl⟩
  rw [← htn] at hvt
  rw [← hun] at hvu
  subst hvt hvu
  have P0 := Sr.start h [.int .i64 kind, .int .i64 t.k, .int .u32 t.s, .int .u32 t.v, .int .u32 id, .slice oa on oc, .slice ma mn mc]
  obtain ⟨W0, hW0⟩ : ∃ W0, W0 = ((w.alloc (.cells #[.slice ta tn tc, .slice ua un uc] 29)).alloc (.cells #[.int .i64 kind, .int .i64 t.k, .int .u32 t.s, .int .u32 t.v, .int .u32 id, .slice oa on oc, .slice ma mn mc] 38)).alloc (.cells #[.slice none 0 0, .slice none 0 0] 29) := ⟨_, rfl⟩
  rw [← hW0] at P0
  generalize give own w.heap.size 10 = own0 at P0
  obtain ⟨W1, hW1⟩ : ∃ W1, W1 = W0.alloc (.cells #[.slice none 0 0] 27) := ⟨_, rfl⟩
  have q1 : Sn (fun _ => False) own0 W0 (give own0 W0.heap.size 7) W1 := Sn.quiet (by rw [hW1]; exact (Keeps.refl _ _).alloc _) 7
  have P1 := Sr.sn P0 q1 (fun x => x) (fun x => x) (P0.it.sc.sn q1 (fun x => x) (fun _ _ x => x))
  have CA : Aside (CellsO (give own0 W0.heap.size 7) 7 W1 W0.heap.size 27 [.slice none 0 0]) := ⟨⟨by rw [hW1]; exact Cells.new _ _ _, give_new (Nat.le_refl _)⟩⟩
  generalize give own0 W0.heap.size 7 = own1 at P1 CA
  have HR := Aside.mk (And.intro ro rm)
  have HB := Aside.mk (And.intro hbd (And.intro htn hun))
  have hz : W0.heap.size = w.heap.size + 3 := by rw [hW0]; simp
  clear h htn hun hbd q1 ro rm P0
  go_enter Tryz.func25, Tryz.ntmps25
  go_upto_region 2 with fail
  rw [← hW0]
  obtain ⟨b4, hb4⟩ : ∃ b, Aside (b = w.heap.size) := ⟨_, ⟨rfl⟩⟩
  obtain ⟨b5, hb5⟩ : ∃ b, Aside (b = w.heap.size + 1) := ⟨_, ⟨rfl⟩⟩
  obtain ⟨b6, hb6⟩ : ∃ b, Aside (b = w.heap.size + 1 + 1) := ⟨_, ⟨rfl⟩⟩
  obtain ⟨ab, hab⟩ : ∃ b, Aside (b = W0.heap.size) := ⟨_, ⟨rfl⟩⟩
  rw [← hb6.it, ← hb5.it, ← hb4.it] at P1
  rw [← hab.it] at CA
  rw [show w.heap.size + 3 = ab from by rw [hab.it, hz], show w.heap.size + 2 = b6 from hb6.it.symm, ← hb5.it, ← hb4.it]
  rw [← hW1]
  clear hW0 hW1 hz
  have o0 := P1.it.c5.1.cell 0
  have o1 := P1.it.c5.1.cell 1
  have o2 := P1.it.c5.1.cell 2
  have o3 := P1.it.c5.1.cell 3
  have o4 := P1.it.c5.1.cell 4
  have o5 := P1.it.c5.1.cell 5
  have o6 := P1.it.c5.1.cell 6
  simp only [List.getElem?_cons_zero, List.getElem?_cons_succ] at o0 o1 o2 o3 o4 o5 o6
  have DA := Aside.mk (data_at (l := []) kind t id P1.it.sc.gr HR.it.1 HR.it.2 CA.it OwR.zero)
  have NX := Aside.mk (fun W ow (hh : Sc A w0 ow W s [] m ks) cb ob (dd : Dt w0 ow W cb ob ab [] (.slice oa on oc) (.slice ma mn mc) bo bm) => next_dn hh dd (by omega) hbo hbm hno)
  go_upto_region 3 with (first
    | (go_at_call 53; refine DA.it.mono ?_; rintro e w2 ⟨cb, ob, own2, rfl, D2, q2⟩; have P2 := Sr.sn P1 q2.it (fun x => x) (fun x => x) (P1.it.sc.sn q2.it (fun x => x) (fun _ _ x => x)))
    | (go_at_call 9; refine (NX.it w2 own2 P2.it.sc cb ob D2.it).mono ?_; rintro e w3 ⟨own3, rfl, hs3, D3, q3⟩)
    | fail)
  have P3 := Sr.sn P2 q3.it in8_9 in8_10 hs3.it
  clear o0 o1 o2 o3 o4 o5 o6 DA NX P1 P2 D2 CA q2 q3 hs3
  obtain ⟨w4, hw4⟩ : ∃ w4, w4 = w3.alloc (.cells #[.int .u8 0, .int .u8 0, .int .u16 0, .int .u32 0, .int .u32 0, .slice none 0 0] 47) := ⟨_, rfl⟩
  have q4 : Sn (fun _ => False) own3 w3 (give own3 w3.heap.size 10) w4 := Sn.quiet (by rw [hw4]; exact (Keeps.refl _ _).alloc _) 10
  have P4 := Sr.sn P3 q4 (fun x => x) (fun x => x) (P3.it.sc.sn q4 (fun x => x) (fun _ _ x => x))
  have D4 := Aside.mk (D3.it.sn q4 (fun x => x) (fun x => x) (fun x => x))
  have C9 : Aside (CellsO (give own3 w3.heap.size 10) 10 w4 w3.heap.size 47 [.int .u8 0, .int .u8 0, .int .u16 0, .int .u32 0, .int .u32 0, .slice none 0 0]) := ⟨⟨by rw [hw4]; exact Cells.new _ _ _, give_new (Nat.le_refl _)⟩⟩
  rw [← hw4]
  generalize give own3 w3.heap.size 10 = own4 at P4 D4 C9
  obtain ⟨b9, hb9⟩ : ∃ b, Aside (b = w3.heap.size) := ⟨_, ⟨rfl⟩⟩
  rw [← hb9.it] at C9 ⊢
  clear hw4 hb9 P3 D3 q4
  obtain ⟨d0, d1⟩ := Sr.cn2 P4
  have HT : Aside (tn = 0) := ⟨HB.it.2.1⟩
  rw [HT.it] at P4 d0
  rw [HT.it]
  have CT := Aside.mk (refControl0 ta ua tc un uc w4)
  go_upto_region 4 with (first | (go_at_call 26; refine CT.it.mono ?_; rintro e w5 ⟨rfl, k5⟩) | fail)
  obtain ⟨w7, hw7⟩ : ∃ w7, w7 = (w5.alloc (.cells #[.slice ta 0 tc, .slice ua un uc] 29)).alloc (.cells #[.int .u8 0, .int .u8 0, .int .u16 0, .int .u32 0, .int .u32 0] 44) := ⟨_, rfl⟩
  obtain ⟨aa, ac, own7, N7'⟩ := Nx.gather (hs := hz5) P4 D4 C9 k5.it (TN.same P4.it.t k5.it) (UN.same P4.it.u k5.it) hw7
  have N7 := Nx.any (G := fun _ => True) N7' trivial (fun _ _ _ _ => trivial)
  rw [← hw7]
  obtain ⟨b12, hb12⟩ : ∃ b, Aside (b = w5.heap.size + 1) := ⟨_, ⟨rfl⟩⟩
  obtain ⟨b11, hb11⟩ : ∃ b, Aside (b = w5.heap.size) := ⟨_, ⟨rfl⟩⟩
  rw [← hb12.it, ← hb11.it]
  rw [← hb11.it] at N7
  clear hw7 hb12 hb11 P4 D4 C9 CT d0 d1 k5 N7'
  go_upto_region 8 with fail
  have HU : Aside (un = ks.length) := ⟨HB.it.2.2⟩
  rw [← HU.it] at N7
  have HNO := Aside.mk hno
  have hun63 : (un : Int) ≤ 35184372088832 := by have := HU.it; omega
  clear hno HB HT
  go_loopw [14] (fun jv wr => ∃ (q : Nat) (own : Nat → Nat) (a : Option Addr) (n c : Nat), jv = .int .i64 q ∧ q ≤ un ∧ Aside (Nx A w0 own s [] m [] b5 b6 ab b9 b11 [.int .i64 kind, .int .i64 t.k, .int .u32 t.s, .int .u32 t.v, .int .u32 id, .slice oa on oc, .slice ma mn mc] [.int .u8 0, .int .u8 0, .int .u16 0, .int .u32 0, .int .u32 0, .slice none 0 0] (.slice aa un ac) ks (.slice oa on oc) (.slice ma mn mc) bo bm (.slice ta 0 tc) (.slice a n c) [] (ks.drop q) (fun _ => True) wr)) (fun jv _ => un - (intOf jv).toNat)
  case atStart => exact ⟨0, own7, ua, un, uc, rfl, Nat.zero_le _, N7⟩
  case round =>
    clear N7
    obtain ⟨q, own, a, n, c, rfl, hq, HN⟩ := hrel
    rcases Nat.eq_or_lt_of_le hq with rfl | hlt
    · have ed : ks.drop q = [] := List.drop_eq_nil_of_le (by rw [HU.it]; exact Nat.le_refl _)
      rw [ed] at HN
      obtain rfl := RdW.empty HN.it.u
      clear ed
      obtain ⟨⟨d0, d1, d2⟩, _⟩ := Nx.s9 HN
      go_upto_region 10 with (first | (go_at_call 54; refine (nx_first0 ta a 0 tc c HN).mono ?_; rintro e w8 ⟨rfl, N8'⟩) | fail)
      have N8 := Nx.any (G := Keeps Nowhere w8) N8' (Keeps.refl _ _) (fun _ _ k e => e.trans k)
      have N8d := Nx.quiet N8 (Keeps.refl _ _).drew
      clear N8' HN d0 d1 d2
      go_region_held3 (fun W => (W.cell? ⟨b11, 0, none⟩ = some (.slice ta 0 tc) ∧ W.cell? ⟨b11, 1, none⟩ = some (.slice a 0 c) ∧ W.cell? ⟨ab, 0, none⟩ = some (.slice aa q ac)) ∧ W.cell? ⟨b9, 0, none⟩ = some (.int .u8 0) ∧ W.cell? ⟨b9, 1, none⟩ = some (.int .u8 0) ∧ W.cell? ⟨b9, 2, none⟩ = some (.int .u16 0) ∧ W.cell? ⟨b9, 3, none⟩ = some (.int .u32 0) ∧ W.cell? ⟨b9, 4, none⟩ = some (.int .u32 0) ∧ W.cell? ⟨b9, 5, none⟩ = some (.slice none 0 0)) (first | with_reducible exact Nx.s9 (by with_reducible assumption) | with_reducible exact Nx.s9S (by with_reducible assumption)) (first
        | (go_at_call 27; refine (nx_same _ _ _ _ _ (by with_reducible assumption) (holds_no _) (holds_no _)).mono ?_; rintro e w9 ⟨rfl, N9⟩; obtain ⟨f0, f1, f2, f3⟩ := Nx.c62 N9)
        | fail)
      all_goals
        obtain ⟨y0, y1, E⟩ := Nx.fin N8 N9.it.f (vu' := .slice a 0 c) ⟨N9.it.u, fun b hb => .inl hb⟩
        clear f0 f1 f2 f3
        generalize (w9.setCell ⟨b6, 0, none⟩ (.slice ta 0 tc)).setCell ⟨b6, 1, none⟩ (.slice a 0 c) = V at y0 y1 E ⊢
        go_wp2
        refine bodyPost_ret (v := .tuple #[.agg #[.slice ta 0 tc, .slice a 0 c], .bool true]) (by simp [results, Tryz.results25, go_sem, y0, y1]) rfl ?_
        exact ⟨_, _, _, rfl, E⟩
    · obtain ⟨k, hk⟩ : ∃ k, ks[q]? = some k := ⟨_, List.getElem?_eq_getElem (by rw [← HU.it]; omega)⟩
      have HK := Aside.mk hk
      have ed : ks.drop q = k :: ks.drop (q + 1) := Sdat.drop_at hk
      rw [ed] at HN
      have HL : Aside ((k :: ks.drop (q + 1)).length * 4 ≤ 140737488355328) := ⟨by rw [← ed, List.length_drop]; omega⟩
      obtain ⟨_, _, ea, _, _, _, hra⟩ := HN.it.rab.at
      injection ea with ea1 ea2 ea3
      clear ea2
      subst ea1 ea3
      obtain ⟨xg, xo, rfl, hx⟩ := hra q k HK.it
      have SQ := Aside.mk (HNO.it q (by rw [← HU.it]; exact hlt))
      have i2 : (q : Int) < un := by omega
      have i3 : (0 : Int) ≤ q := by omega
      have i4 : (q : Int) ≤ 9223372036854775806 := by omega
      clear ed hra hk
      obtain ⟨⟨d0, d1, d2⟩, _⟩ := Nx.s9 HN
      go_upto_region 11 with (first | (go_at_call 54; refine (nx_first1 ta 0 tc k HN).mono ?_; rintro e w8 ⟨rfl, N8⟩) | fail)
      have hx8 : w8.cell? ⟨xg, xo + q, none⟩ = some (.int .u32 k) := by
        obtain ⟨_, _, ea, _, _, _, hra⟩ := N8.it.rab.at
        injection ea with ea1 _ ea3
        obtain ⟨g2, o2, e2, hc⟩ := hra q k (HK.it)
        rw [← ea1] at e2
        injection e2 with e2
        injection e2 with e3 e4
        subst e3 e4
        exact hc
      clear d0 d1 d2 HN hx
      obtain ⟨⟨d0, d1, d2⟩, _⟩ := Nx.s9 N8
      have o5 := N8.it.c5.1.cell 5
      simp only [List.getElem?_cons_zero, List.getElem?_cons_succ] at o5
      go_upto_region 15 with (first
        | (go_at_call 55; refine (nx_saidO hbo q (by omega) N8).mono ?_; rw [SQ.it]; rintro e w9 ⟨rfl, N9⟩)
        | fail)
      clear d0 d1 d2 o5 hx8 N8
      obtain ⟨⟨d0, d1, d2⟩, _⟩ := Nx.s9 N9
      have SV := Aside.mk (refServed (w := w9) ta 0 tc k false N9.it.u HL.it)
      go_upto_region 7 with (first
        | (go_at_call 56; refine SV.it.mono ?_; rintro e wb ⟨v', rfl, Ub, kb⟩; obtain ⟨a2, c2, hv2, _, _, _, _⟩ := Ub.it.1.at; generalize ((if (false : Bool) = true then ks.drop (q + 1) ++ [k] else ks.drop (q + 1)) : List Nat).length = n2 at hv2; subst hv2; have Nb := Nx.quiet N9 kb.it; obtain ⟨e0, e1⟩ : wb.cell? ⟨b11, 0, none⟩ = some (.slice ta 0 tc) ∧ wb.cell? ⟨b11, 1, none⟩ = some (.slice a n c) := ⟨Nb.it.c11.1.cell 0, Nb.it.c11.1.cell 1⟩; have g0 := Nb.it.c11.1.frozen 0; have g1 := Nb.it.c11.1.frozen 1)
        | fail)
      have Nc := Nx.put N9 kb.it (vu' := .slice a2 n2 c2) (K2 := ks.drop (q + 1)) Ub.it rfl rfl
      clear e0 e1 g0 g1 d0 d1 d2 SV Nb Ub kb N9
      generalize (wb.setCell ⟨b11, 0, none⟩ (.slice ta 0 tc)).setCell ⟨b11, 1, none⟩ (.slice a2 n2 c2) = wd at Nc ⊢
      generalize give own w9.heap.size 9 = ownc at Nc
      go_wp2
      go_roundw
      case rel => exact ⟨q + 1, ownc, a2, n2, c2, by go_num, by omega, Nc⟩
      case measure => simp [intOf]; omega
end Go.Proofs.YtnohcbdnhpaafaaGreatDoor

/-
  SchedPlays: next while no ticket waits, and a stream has a frame
-/
namespace Go.Proofs.YtnohcbdnhpaafaaGreatDoor
open Go.RowKit

variable {A : Nat → Addr} {w w' w0 W W7 : World} {own own' : Nat → Nat} {s m m' cb ob : Nat} {ks ks' K k1 l : List Nat} {L L' L1 : List Tk} {v vt vu vo vm x0 x1 y : Value} {b5 b6 ab b9 b11 b12 : Nat} {I : Nat → Prop} {cs fr : List Value} {bo bm : List Bool} {av : Value} {F : World → Prop}
variable [Xs]

/-- the document's scheduler is written over, the frame's bytes stay -/
theorem Nx.putC {vu' : Value} {K2 : List Nat} {g : Nat} {xs : List Value} (h : Aside (Nx A w0 own s L m K b5 b6 ab b9 b11 cs fr av l vo vm bo bm vt vu L1 k1 (fun V => Cells V g 5 xs) W)) (hk : Keeps Nowhere W w') (hs : Svd vu W.heap.size vu' K2 w') (s0 : isSl vt = true) (s1 : isSl vu = true) : Aside (Nx A w0 (give own W.heap.size 9) s L m K b5 b6 ab b9 b11 cs fr av l vo vm bo bm vt vu' L1 K2 (fun V => Cells V g 5 xs) ((w'.setCell ⟨b11, 0, none⟩ vt).setCell ⟨b11, 1, none⟩ vu')) := by
  have p := Nx.put (Nx.any (G := fun _ => True) h trivial (fun _ _ _ _ => trivial)) hk hs s0 s1
  have c := h.it.f.later hk (fun x => x)
  have c11 := h.it.c11.quiet hk
  exact Nx.any p (c.later (Bx2.outK w' b11 vt vu') (cells_ne c c11.1 (by decide))) (fun _ _ k e => e.later k (fun x => x))
theorem Nx.s10 {a0 a1 a2 a3 a4 a5 c0 c1 c2 c3 c4 c5 c6 : Value} (h : Aside (Nx A w0 own s L m K b5 b6 ab b9 b11 [c0, c1, c2, c3, c4, c5, c6] [a0, a1, a2, a3, a4, a5] av l vo vm bo bm vt vu L1 k1 F W)) :
    (W.cell? ⟨b11, 0, none⟩ = some vt ∧ W.cell? ⟨b11, 1, none⟩ = some vu ∧ W.cell? ⟨ab, 0, none⟩ = some av ∧ W.cell? ⟨b5, 6, none⟩ = some c6) ∧ W.cell? ⟨b9, 0, none⟩ = some a0 ∧ W.cell? ⟨b9, 1, none⟩ = some a1 ∧ W.cell? ⟨b9, 2, none⟩ = some a2 ∧ W.cell? ⟨b9, 3, none⟩ = some a3 ∧ W.cell? ⟨b9, 4, none⟩ = some a4 ∧ W.cell? ⟨b9, 5, none⟩ = some a5 :=
  ⟨⟨h.it.c11.1.cell 0, h.it.c11.1.cell 1, h.it.cab.1.cell 0, h.it.c5.1.cell 6⟩, h.it.c9.1.cell 0, h.it.c9.1.cell 1, h.it.c9.1.cell 2, h.it.c9.1.cell 3, h.it.c9.1.cell 4, h.it.c9.1.cell 5⟩
theorem Nx.s10S {u0 u1 a0 a1 a2 a3 a4 a5 c0 c1 c2 c3 c4 c5 c6 : Value} (h : Aside (Nx A w0 own s L m K b5 b6 ab b9 b11 [c0, c1, c2, c3, c4, c5, c6] [a0, a1, a2, a3, a4, a5] av l vo vm bo bm vt vu L1 k1 F W)) :
    (fun W : World => (W.cell? ⟨b11, 0, none⟩ = some vt ∧ W.cell? ⟨b11, 1, none⟩ = some vu ∧ W.cell? ⟨ab, 0, none⟩ = some av ∧ W.cell? ⟨b5, 6, none⟩ = some c6) ∧ W.cell? ⟨b9, 0, none⟩ = some a0 ∧ W.cell? ⟨b9, 1, none⟩ = some a1 ∧ W.cell? ⟨b9, 2, none⟩ = some a2 ∧ W.cell? ⟨b9, 3, none⟩ = some a3 ∧ W.cell? ⟨b9, 4, none⟩ = some a4 ∧ W.cell? ⟨b9, 5, none⟩ = some a5) ((W.setCell ⟨b6, 0, none⟩ u0).setCell ⟨b6, 1, none⟩ u1) := by
  have d11 := cell_S h.it.c11.1 h.it.ne u0 u1
  have dab := cell_S h.it.cab.1 (cells_ne h.it.cab.1 h.it.c6.1 (by decide)) u0 u1
  have d9 := cell_S h.it.c9.1 (cells_ne h.it.c9.1 h.it.c6.1 (by decide)) u0 u1
  have d5 := cell_S h.it.c5.1 (cells_ne h.it.c5.1 h.it.c6.1 (by decide)) u0 u1
  exact ⟨⟨d11 0, d11 1, dab 0, d5 6⟩, d9 0, d9 1, d9 2, d9 3, d9 4, d9 5⟩
theorem nx_same2 (p t f i n : Int) {x y : Int} {g g' : Nat} (h : Aside (Nx A w0 own s L m K b5 b6 ab b9 b11 cs fr av l vo vm bo bm vt vu L1 k1 F W)) (hF : F W → Cells W g 5 [.int .u8 x, .int .u8 y] ∧ Cells W g' 5 [.int .u8 x, .int .u8 y]) : Calls Tryz.prog 27 #[.agg #[.int .u8 p, .int .u8 t, .int .u16 f, .int .u32 i, .int .u32 n, .slice (some ⟨g, 0, none⟩) 2 2], .agg #[.int .u8 p, .int .u8 t, .int .u16 f, .int .u32 i, .int .u32 n, .slice (some ⟨g', 0, none⟩) 2 2]] W fun e w' => e = .returned (.bool true) ∧ Aside (Nx A w0 own s L m K b5 b6 ab b9 b11 cs fr av l vo vm bo bm vt vu L1 k1 F w') :=
  nx_same p t f i n h (holds_two (hF h.it.f).1) (holds_two (hF h.it.f).2)
set_option maxRecDepth 20000 in
set_option maxHeartbeats 8000000 in
theorem next_bs (h : Sp A w0 own w s [] m ks vt vu) (kind : Int) (t : Tk) (id : Nat) (oa ma : Option Addr) (on oc mn mc : Nat) (ro : RdBo w0 (.slice oa on oc) bo) (rm : RdBo w0 (.slice ma mn mc) bm) (hl : ks.length * 4 + 4 ≤ 140737488355328) (hbo : bo.length ≤ 9223372036854775807) (hbm : bm.length ≤ 9223372036854775807) (j kj : Nat) (hkj : ks[j]? = some kj) (hno : ∀ i, i < j → saidL bo i = false) (hyes : saidL bo j = true) (KK : List Nat) (hKK : KK = if saidL bm j then ks.drop (j + 1) ++ [kj] else ks.drop (j + 1)) :
    Calls Tryz.prog 25 #[ptr s, .agg #[vt, vu], .agg #[.int .i64 kind, .int .i64 t.k, .int .u32 t.s, .int .u32 t.v, .int .u32 id, .slice oa on oc, .slice ma mn mc]] w fun e w' => ∃ vt' vu' own', e = .returned (.tuple #[.agg #[vt', vu'], .bool true]) ∧ Aside (Sp A w0 own' w' s [] m KK vt' vu') := by
  obtain ⟨ta, tc, hvt, _, _, _⟩ := h.t.at
  obtain ⟨ua, uc, hvu, _, _, _, _⟩ := h.u.at
  have hbd := h.sc.bound
  obtain ⟨tn, htn⟩ : ∃ tn, tn = ([] : List Tk).length := ⟨_, rfl⟩
  obtain ⟨un, hun⟩ : ∃ un, un = ks.length := ⟨_, rfl⟩
  rw [← htn] at hvt
  rw [← hun] at hvu
  subst hvt hvu
  have P0 := Sr.start h [.int .i64 kind, .int .i64 t.k, .int .u32 t.s, .int .u32 t.v, .int .u32 id, .slice oa on oc, .slice ma mn mc]
  obtain ⟨W0, hW0⟩ : ∃ W0, W0 = ((w.alloc (.cells #[.slice ta tn tc, .slice ua un uc] 29)).alloc (.cells #[.int .i64 kind, .int .i64 t.k, .int .u32 t.s, .int .u32 t.v, .int .u32 id, .slice oa on oc, .slice ma mn mc] 38)).alloc (.cells #[.slice none 0 0, .slice none 0 0] 29) := ⟨_, rfl⟩
  rw [← hW0] at P0
  generalize give own w.heap.size 10 = own0 at P0
  obtain ⟨W1, hW1⟩ : ∃ W1, W1 = W0.alloc (.cells #[.slice none 0 0] 27) := ⟨_, rfl⟩
  have q1 : Sn (fun _ => False) own0 W0 (give own0 W0.heap.size 7) W1 := Sn.quiet (by rw [hW1]; exact (Keeps.refl _ _).alloc _) 7
  have P1 := Sr.sn P0 q1 (fun x => x) (fun x => x) (P0.it.sc.sn q1 (fun x => x) (fun _ _ x => x))
  have CA : Aside (CellsO (give own0 W0.heap.size 7) 7 W1 W0.heap.size 27 [.slice none 0 0]) := ⟨⟨by rw [hW1]; exact Cells.new _ _ _, give_new (Nat.le_refl _)⟩⟩
  generalize give own0 W0.heap.size 7 = own1 at P1 CA
  have HR := Aside.mk (And.intro ro rm)
  have HKK := Aside.mk hKK
  clear hKK
  have HB := Aside.mk (And.intro hbd (And.intro htn hun))
  have hz : W0.heap.size = w.heap.size + 3 := by rw [hW0]; simp
  clear h htn hun hbd q1 ro rm P0
  go_enter Tryz.func25, Tryz.ntmps25
  go_upto_region 2 with fail
  rw [← hW0]
  obtain ⟨b4, hb4⟩ : ∃ b, Aside (b = w.heap.size) := ⟨_, ⟨rfl⟩⟩
  obtain ⟨b5, hb5⟩ : ∃ b, Aside (b = w.heap.size + 1) := ⟨_, ⟨rfl⟩⟩
  obtain ⟨b6, hb6⟩ : ∃ b, Aside (b = w.heap.size + 1 + 1) := ⟨_, ⟨rfl⟩⟩
  obtain ⟨ab, hab⟩ : ∃ b, Aside (b = W0.heap.size) := ⟨_, ⟨rfl⟩⟩
  rw [← hb6.it, ← hb5.it, ← hb4.it] at P1
  rw [← hab.it] at CA
  rw [show w.heap.size + 3 = ab from by rw [hab.it, hz], show w.heap.size + 2 = b6 from hb6.it.symm, ← hb5.it, ← hb4.it]
  rw [← hW1]
  clear hW0 hW1 hz
  have o0 := P1.it.c5.1.cell 0
  have o1 := P1.it.c5.1.cell 1
  have o2 := P1.it.c5.1.cell 2
  have o3 := P1.it.c5.1.cell 3
  have o4 := P1.it.c5.1.cell 4
  have o5 := P1.it.c5.1.cell 5
  have o6 := P1.it.c5.1.cell 6
  simp only [List.getElem?_cons_zero, List.getElem?_cons_succ] at o0 o1 o2 o3 o4 o5 o6
  have DA := Aside.mk (data_at (l := []) kind t id P1.it.sc.gr HR.it.1 HR.it.2 CA.it OwR.zero)
  have NX := Aside.mk (fun W ow (hh : Sc A w0 ow W s [] m ks) cb ob (dd : Dt w0 ow W cb ob ab [] (.slice oa on oc) (.slice ma mn mc) bo bm) => next_ds hh dd (by omega) hbo hbm hkj hno hyes)
  go_upto_region 3 with (first
    | (go_at_call 53; refine DA.it.mono ?_; rintro e w2 ⟨cb, ob, own2, rfl, D2, q2⟩; have P2 := Sr.sn P1 q2.it (fun x => x) (fun x => x) (P1.it.sc.sn q2.it (fun x => x) (fun _ _ x => x)))
    | (go_at_call 9; refine (NX.it w2 own2 P2.it.sc cb ob D2.it).mono ?_; rintro e w3 ⟨own3, g, rfl, hs3, D3, q3, G3⟩; rw [← HKK.it] at hs3)
    | fail)
  have P3 := Sr.sn P2 q3.it in8_9 in8_10 hs3.it
  clear o0 o1 o2 o3 o4 o5 o6 DA NX P1 P2 D2 CA q2 q3 hs3
  obtain ⟨w4, hw4⟩ : ∃ w4, w4 = w3.alloc (.cells #[.int .u8 0, .int .u8 0, .int .u16 (flg j), .int .u32 kj, .int .u32 2, .slice (some ⟨g, 0, none⟩) 2 2] 47) := ⟨_, rfl⟩
  have q4 : Sn (fun _ => False) own3 w3 (give own3 w3.heap.size 10) w4 := Sn.quiet (by rw [hw4]; exact (Keeps.refl _ _).alloc _) 10
  have P4 := Sr.sn P3 q4 (fun x => x) (fun x => x) (P3.it.sc.sn q4 (fun x => x) (fun _ _ x => x))
  have D4 := Aside.mk (D3.it.sn q4 (fun x => x) (fun x => x) (fun x => x))
  have C9 : Aside (CellsO (give own3 w3.heap.size 10) 10 w4 w3.heap.size 47 [.int .u8 0, .int .u8 0, .int .u16 (flg j), .int .u32 kj, .int .u32 2, .slice (some ⟨g, 0, none⟩) 2 2]) := ⟨⟨by rw [hw4]; exact Cells.new _ _ _, give_new (Nat.le_refl _)⟩⟩
  have G4 : Aside (Cells w4 g 5 (fby kj j)) := ⟨(G3.it.sn q4 (fun x => x)).1⟩
  rw [← hw4]
  generalize give own3 w3.heap.size 10 = own4 at P4 D4 C9
  obtain ⟨b9, hb9⟩ : ∃ b, Aside (b = w3.heap.size) := ⟨_, ⟨rfl⟩⟩
  rw [← hb9.it] at C9 ⊢
  clear hw4 hb9 P3 D3 q4
  obtain ⟨d0, d1⟩ := Sr.cn2 P4
  have HT : Aside (tn = 0) := ⟨HB.it.2.1⟩
  rw [HT.it] at P4 d0
  rw [HT.it]
  have CT := Aside.mk (refControl0 ta ua tc un uc w4)
  go_upto_region 4 with (first | (go_at_call 26; refine CT.it.mono ?_; rintro e w5 ⟨rfl, k5⟩) | fail)
  obtain ⟨w7, hw7⟩ : ∃ w7, w7 = (w5.alloc (.cells #[.slice ta 0 tc, .slice ua un uc] 29)).alloc (.cells #[.int .u8 0, .int .u8 0, .int .u16 0, .int .u32 0, .int .u32 0] 44) := ⟨_, rfl⟩
  obtain ⟨aa, ac, own7, N7'⟩ := Nx.gather (hs := hz5) P4 D4 C9 k5.it (TN.same P4.it.t k5.it) (UN.same P4.it.u k5.it) hw7
  have G7 : Cells w7 g 5 (fby kj j) := by rw [hw7]; exact ((G4.it.later k5.it (fun x => x)).later ((Keeps.refl Nowhere _).alloc _) (fun x => x)).later ((Keeps.refl Nowhere _).alloc _) (fun x => x)
  have N7 := Nx.any (G := fun V => Cells V g 5 (fby kj j)) N7' G7 (fun _ _ k e => e.later k (fun x => x))
  rw [← hw7]
  obtain ⟨b12, hb12⟩ : ∃ b, Aside (b = w5.heap.size + 1) := ⟨_, ⟨rfl⟩⟩
  obtain ⟨b11, hb11⟩ : ∃ b, Aside (b = w5.heap.size) := ⟨_, ⟨rfl⟩⟩
  rw [← hb12.it, ← hb11.it]
  rw [← hb11.it] at N7
  clear hw7 hb12 hb11 P4 D4 C9 CT d0 d1 k5 N7' G7 G4 G3
  go_upto_region 8 with fail
  have HU : Aside (un = ks.length) := ⟨HB.it.2.2⟩
  have hjl : j < ks.length := (List.getElem?_eq_some_iff.1 hkj).1
  have HLT : Aside ((ks.take (j + 1)).length = j + 1) := ⟨by rw [List.length_take]; omega⟩
  rw [HLT.it] at N7
  have HNO := Aside.mk hno
  have HY := Aside.mk hyes
  have HKJ := Aside.mk hkj
  have hjn : j < un := by have := HU.it; omega
  have hun63 : (un : Int) ≤ 35184372088832 := by have := HU.it; omega
  clear hno HB HT hyes hkj hjl
  go_loopw [14] (fun jv wr => ∃ (q : Nat) (own : Nat → Nat) (a : Option Addr) (n c : Nat), jv = .int .i64 q ∧ q ≤ j ∧ Aside (Nx A w0 own s [] m KK b5 b6 ab b9 b11 [.int .i64 kind, .int .i64 t.k, .int .u32 t.s, .int .u32 t.v, .int .u32 id, .slice oa on oc, .slice ma mn mc] [.int .u8 0, .int .u8 0, .int .u16 (flg j), .int .u32 kj, .int .u32 2, .slice (some ⟨g, 0, none⟩) 2 2] (.slice aa (j + 1) ac) (ks.take (j + 1)) (.slice oa on oc) (.slice ma mn mc) bo bm (.slice ta 0 tc) (.slice a n c) [] (ks.drop q) (fun V => Cells V g 5 (fby kj j)) wr)) (fun jv _ => j - (intOf jv).toNat)
  case atStart => exact ⟨0, own7, ua, un, uc, rfl, Nat.zero_le _, N7⟩
  case round =>
    clear N7
    obtain ⟨q, own, a, n, c, rfl, hq, HN⟩ := hrel
    rcases Nat.eq_or_lt_of_le hq with rfl | hlt
    · obtain ⟨k, hk⟩ : ∃ k, ks[q]? = some k := ⟨_, List.getElem?_eq_getElem (by rw [← HU.it]; omega)⟩
      have HK := Aside.mk hk
      have ed : ks.drop q = k :: ks.drop (q + 1) := Sdat.drop_at hk
      rw [ed] at HN
      have HL : Aside ((k :: ks.drop (q + 1)).length * 4 ≤ 140737488355328) := ⟨by rw [← ed, List.length_drop]; omega⟩
      obtain ⟨_, _, ea, _, _, _, hra⟩ := HN.it.rab.at
      injection ea with ea1 ea2 ea3
      clear ea2
      subst ea1 ea3
      obtain ⟨xg, xo, rfl, hx⟩ := hra q k (show (ks.take (q + 1))[q]? = some k from by rw [List.getElem?_take, if_pos (by omega)]; exact HK.it)
      have SQ := Aside.mk (HY.it)
      have i2 : (q : Int) < un := by omega
      have i3 : (0 : Int) ≤ q := by omega
      have i4 : (q : Int) ≤ 9223372036854775806 := by omega
      have ekk : k = kj := Option.some.inj (HK.it.symm.trans HKJ.it)
      subst ekk
      have i5 : ¬ ((q : Int) + 1 ≤ q) := by omega
      clear ed hra hk
      obtain ⟨⟨d0, d1, d2⟩, _⟩ := Nx.s9 HN
      go_upto_region 11 with (first | (go_at_call 54; refine (nx_first1 ta 0 tc k HN).mono ?_; rintro e w8 ⟨rfl, N8⟩) | fail)
      have hx8 : w8.cell? ⟨xg, xo + q, none⟩ = some (.int .u32 k) := by
        obtain ⟨_, _, ea, _, _, _, hra⟩ := N8.it.rab.at
        injection ea with ea1 _ ea3
        obtain ⟨g2, o2, e2, hc⟩ := hra q k ((show (ks.take (q + 1))[q]? = some k from by rw [List.getElem?_take, if_pos (by omega)]; exact HK.it))
        rw [← ea1] at e2
        injection e2 with e2
        injection e2 with e3 e4
        subst e3 e4
        exact hc
      clear d0 d1 d2 HN hx
      obtain ⟨⟨d0, d1, d2⟩, _⟩ := Nx.s9 N8
      have o5 := N8.it.c5.1.cell 5
      simp only [List.getElem?_cons_zero, List.getElem?_cons_succ] at o5
      go_upto_region 14 with (first
        | (go_at_call 55; refine (nx_saidO hbo q (by omega) N8).mono ?_; rw [SQ.it]; rintro e w9 ⟨rfl, N9'⟩)
        | fail)
      have N9 := Nx.any (G := fun V => Keeps Nowhere w9 V ∧ Cells V g 5 (fby k q)) N9' ⟨Keeps.refl _ _, N9'.it.f⟩ (fun _ _ kk e => ⟨e.1.trans kk, e.2.later kk (fun x => x)⟩)
      have N9d := Nx.quiet N9 (Keeps.refl _ _).drew
      have hq63 : q ≤ 9223372036854775807 := by omega
      have eW : IntKind.i64.wrap ((q : Int) + 1) = (q : Int) + 1 := by rw [IntKind.wrap_i64]; omega
      have eB : ((q : Int) + 1 == IntKind.i64.wrap ((q : Int) + 1)) = true := by rw [eW]; exact beq_self_eq_true _
      clear d0 d1 d2 o5 hx8 N8 N9'
      go_region_held3 (fun W => (W.cell? ⟨b11, 0, none⟩ = some (.slice ta 0 tc) ∧ W.cell? ⟨b11, 1, none⟩ = some (.slice a n c) ∧ W.cell? ⟨ab, 0, none⟩ = some (.slice (some ⟨xg, xo, none⟩) (q + 1) ac) ∧ W.cell? ⟨b5, 6, none⟩ = some (.slice ma mn mc)) ∧ W.cell? ⟨b9, 0, none⟩ = some (.int .u8 0) ∧ W.cell? ⟨b9, 1, none⟩ = some (.int .u8 0) ∧ W.cell? ⟨b9, 2, none⟩ = some (.int .u16 (flg q)) ∧ W.cell? ⟨b9, 3, none⟩ = some (.int .u32 k) ∧ W.cell? ⟨b9, 4, none⟩ = some (.int .u32 2) ∧ W.cell? ⟨b9, 5, none⟩ = some (.slice (some ⟨g, 0, none⟩) 2 2)) (first | with_reducible exact Nx.s10 (by with_reducible assumption) | with_reducible exact Nx.s10S (by with_reducible assumption)) (first
        | (go_at_call 55; refine (nx_saidM hbm q hq63 (by with_reducible assumption)).mono ?_; rintro e wz ⟨rfl, Nz⟩; obtain ⟨f0, f1, f2, f3⟩ := Nx.c62 Nz)
        | (go_at_call 56; refine (nx_served w9.heap.size ta 0 tc k _ HL.it (by with_reducible assumption) (by intro V e; first | exact e.1.size | exact e.1.1.size | exact e.1.1.1.size)).mono ?_; rintro e wz ⟨ra, rn, rc, rfl, Nz⟩; obtain ⟨f0, f1, f2, f3⟩ := Nx.c62 Nz)
        | (go_at_call 11; refine (nx_framed k q (by with_reducible assumption)).mono ?_; rintro e wz ⟨g2, rfl, _, Nz⟩; obtain ⟨f0, f1, f2, f3⟩ := Nx.c62 Nz)
        | (go_at_call 27; refine (nx_same2 _ _ _ _ _ (by with_reducible assumption) (by intro e; first | exact ⟨e.1.2, e.2⟩ | exact ⟨e.1.1.2, e.2⟩ | exact ⟨e.1.1.2, e.1.2⟩)).mono ?_; rintro e wz ⟨rfl, Nz⟩; obtain ⟨f0, f1, f2, f3⟩ := Nx.c62 Nz)
        | fail)
      all_goals
        have hs : Svd (.slice a n c) w9.heap.size (.slice ra rn rc) KK wz := by rw [HKK.it]; first | exact Nz.it.f.2 | exact Nz.it.f.1.2
        have hkz : Keeps Nowhere w9 wz := Nz.it.f.1.1.1
        obtain ⟨y0, y1, E⟩ := Nx.fin N9 hkz hs
        clear f0 f1 f2 f3
        generalize (wz.setCell ⟨b6, 0, none⟩ (.slice ta 0 tc)).setCell ⟨b6, 1, none⟩ (.slice ra rn rc) = V at y0 y1 E ⊢
        go_wp2
        refine bodyPost_ret (v := .tuple #[.agg #[.slice ta 0 tc, .slice ra rn rc], .bool true]) (by simp [results, Tryz.results25, go_sem, y0, y1]) rfl ?_
        exact ⟨_, _, _, rfl, E⟩
    · obtain ⟨k, hk⟩ : ∃ k, ks[q]? = some k := ⟨_, List.getElem?_eq_getElem (by rw [← HU.it]; omega)⟩
      have HK := Aside.mk hk
      have ed : ks.drop q = k :: ks.drop (q + 1) := Sdat.drop_at hk
      rw [ed] at HN
      have HL : Aside ((k :: ks.drop (q + 1)).length * 4 ≤ 140737488355328) := ⟨by rw [← ed, List.length_drop]; omega⟩
      obtain ⟨_, _, ea, _, _, _, hra⟩ := HN.it.rab.at
      injection ea with ea1 ea2 ea3
      clear ea2
      subst ea1 ea3
      obtain ⟨xg, xo, rfl, hx⟩ := hra q k (show (ks.take (j + 1))[q]? = some k from by rw [List.getElem?_take, if_pos (by omega)]; exact HK.it)
      have SQ := Aside.mk (HNO.it q hlt)
      have i2 : (q : Int) < un := by omega
      have i3 : (0 : Int) ≤ q := by omega
      have i4 : (q : Int) ≤ 9223372036854775806 := by omega
      have i5 : (q : Int) < (j : Int) + 1 := by omega
      clear ed hra hk
      obtain ⟨⟨d0, d1, d2⟩, _⟩ := Nx.s9 HN
      go_upto_region 11 with (first | (go_at_call 54; refine (nx_first1 ta 0 tc k HN).mono ?_; rintro e w8 ⟨rfl, N8⟩) | fail)
      have hx8 : w8.cell? ⟨xg, xo + q, none⟩ = some (.int .u32 k) := by
        obtain ⟨_, _, ea, _, _, _, hra⟩ := N8.it.rab.at
        injection ea with ea1 _ ea3
        obtain ⟨g2, o2, e2, hc⟩ := hra q k ((show (ks.take (j + 1))[q]? = some k from by rw [List.getElem?_take, if_pos (by omega)]; exact HK.it))
        rw [← ea1] at e2
        injection e2 with e2
        injection e2 with e3 e4
        subst e3 e4
        exact hc
      clear d0 d1 d2 HN hx
      obtain ⟨⟨d0, d1, d2⟩, _⟩ := Nx.s9 N8
      have o5 := N8.it.c5.1.cell 5
      simp only [List.getElem?_cons_zero, List.getElem?_cons_succ] at o5
      go_upto_region 15 with (first
        | (go_at_call 55; refine (nx_saidO hbo q (by omega) N8).mono ?_; rw [SQ.it]; rintro e w9 ⟨rfl, N9⟩)
        | fail)
      clear d0 d1 d2 o5 hx8 N8
      obtain ⟨⟨d0, d1, d2⟩, _⟩ := Nx.s9 N9
      have SV := Aside.mk (refServed (w := w9) ta 0 tc k false N9.it.u HL.it)
      go_upto_region 7 with (first
        | (go_at_call 56; refine SV.it.mono ?_; rintro e wb ⟨v', rfl, Ub, kb⟩; obtain ⟨a2, c2, hv2, _, _, _, _⟩ := Ub.it.1.at; generalize ((if (false : Bool) = true then ks.drop (q + 1) ++ [k] else ks.drop (q + 1)) : List Nat).length = n2 at hv2; subst hv2; have Nb := Nx.quiet N9 kb.it; obtain ⟨e0, e1⟩ : wb.cell? ⟨b11, 0, none⟩ = some (.slice ta 0 tc) ∧ wb.cell? ⟨b11, 1, none⟩ = some (.slice a n c) := ⟨Nb.it.c11.1.cell 0, Nb.it.c11.1.cell 1⟩; have g0 := Nb.it.c11.1.frozen 0; have g1 := Nb.it.c11.1.frozen 1)
        | fail)
      have Nc := Nx.putC N9 kb.it (vu' := .slice a2 n2 c2) (K2 := ks.drop (q + 1)) Ub.it rfl rfl
      clear e0 e1 g0 g1 d0 d1 d2 SV Nb Ub kb N9
      generalize (wb.setCell ⟨b11, 0, none⟩ (.slice ta 0 tc)).setCell ⟨b11, 1, none⟩ (.slice a2 n2 c2) = wd at Nc ⊢
      generalize give own w9.heap.size 9 = ownc at Nc
      go_wp2
      go_roundw
      case rel => exact ⟨q + 1, ownc, a2, n2, c2, by go_num, by omega, Nc⟩
      case measure => simp [intOf]; omega

end Go.Proofs.YtnohcbdnhpaafaaGreatDoor

/-
  SchedPlays: the step Next
-/
namespace Go.Proofs.YtnohcbdnhpaafaaGreatDoor
open Go.RowKit

variable {A : Nat → Addr} {w w' w0 W : World} {own own' : Nat → Nat} {s m m' : Nat} {ks ks' K : List Nat} {L L' L1 : List Tk} {vt vu : Value} {bo bm : List Bool}

theorem next_any [Xs] (h : Sp A w0 own w s L m ks vt vu) (kind : Int) (t : Tk) (id : Nat) (oa ma : Option Addr) (on oc mn mc : Nat) (ro : RdBo w0 (.slice oa on oc) bo) (rm : RdBo w0 (.slice ma mn mc) bm) (hm : m < 8796093022208) (hl : ks.length * 4 + 4 ≤ 140737488355328) (hbo : bo.length ≤ 9223372036854775807) (hbm : bm.length ≤ 9223372036854775807) :
    Calls Tryz.prog 25 #[ptr s, .agg #[vt, vu], .agg #[.int .i64 kind, .int .i64 t.k, .int .u32 t.s, .int .u32 t.v, .int .u32 id, .slice oa on oc, .slice ma mn mc]] w fun e w' => ∃ vt' vu' own' L' K', e = .returned (.tuple #[.agg #[vt', vu'], .bool true]) ∧ Aside (Sp A w0 own' w' s L' m K' vt' vu') ∧ Aside (K'.length ≤ ks.length) := by
  cases L with
  | cons tk L => exact (next_a tk h kind t id oa ma on oc mn mc ro rm hm).mono (by rintro e w' ⟨vt', vu', own', rfl, hs⟩; exact ⟨vt', vu', own', L, ks, rfl, hs, ⟨Nat.le_refl _⟩⟩)
  | nil =>
    obtain ⟨j, hj, hno, hy⟩ := least_yes (saidL bo) ks.length
    rcases Nat.eq_or_lt_of_le hj with e | hlt
    · exact (next_bn h kind t id oa ma on oc mn mc ro rm hl hbo hbm (fun i hi => hno i (by omega))).mono (by rintro e w' ⟨vt', vu', own', rfl, hs⟩; exact ⟨vt', vu', own', [], [], rfl, hs, ⟨Nat.zero_le _⟩⟩)
    · obtain ⟨kj, hkj⟩ : ∃ kj, ks[j]? = some kj := ⟨_, List.getElem?_eq_getElem hlt⟩
      refine (next_bs h kind t id oa ma on oc mn mc ro rm hl hbo hbm j kj hkj hno (hy hlt) _ rfl).mono ?_
      rintro e w' ⟨vt', vu', own', rfl, hs⟩
      refine ⟨vt', vu', own', [], _, rfl, hs, ⟨?_⟩⟩
      split
      · simp; omega
      · simp
/-- a caller's box is written over -/
theorem Sp.box {X' X : Xs} {b : Nat} {c0 c1 : Value} (E : @Sp X' A w0 own w s L m ks vt vu) (c6 : CellsO own 9 w b 29 [c0, c1]) (s0 : isSl c0 = true) (s1 : isSl c1 = true) (hx : ∀ p ∈ X.l, p ∈ X'.l ∧ p.1 ≠ b) (u0 u1 : Value) : @Sp X A w0 own ((w.setCell ⟨b, 0, none⟩ u0).setCell ⟨b, 1, none⟩ u1) s L m ks vt vu := by
  have q : Sn (fun k => k = 9) own w own ((w.setCell ⟨b, 0, none⟩ u0).setCell ⟨b, 1, none⟩ u1) := ⟨fun _ _ => rfl, ((Keeps.refl _ _).setCell _ _ (fun _ => c6.2)).setCell _ _ (fun _ => c6.2)⟩
  have kB : Keeps (fun c => c = b) w ((w.setCell ⟨b, 0, none⟩ u0).setCell ⟨b, 1, none⟩ u1) := Bx2.outK w b u0 u1
  have hs : ∀ z ∈ [c0, c1], isSl z = true := fun z hz => by
    simp only [List.mem_cons, List.not_mem_nil, or_false] at hz
    rcases hz with rfl | rfl
    · exact s0
    · exact s1
  obtain ⟨e1, e2, e3, e4, e5, e6⟩ := E
  exact ⟨e1.sn q (by decide) (fun k hk e => by have := hk.2; omega), reads_off e2 kB c6.1 (not_sl (flatT_sl L) hs), e3.sn q, reads_off e4 kB c6.1 (not_sl (uv_sl ks) hs), e5.sn q, fun p hp => by
    obtain ⟨h1, h2⟩ := hx p hp
    exact ⟨(e6 p h1).1.later kB h2, (e6 p h1).2⟩⟩
theorem Sp.boxed {X' X : Xs} {b : Nat} {c0 c1 : Value} (E : Aside (@Sp X' A w0 own w s L m ks vt vu)) (c6 : Aside (CellsO own 9 w b 29 [c0, c1])) (s0 : isSl c0 = true) (s1 : isSl c1 = true) (hx : ∀ p ∈ X.l, p ∈ X'.l ∧ p.1 ≠ b) (u0 u1 : Value) :
    let V := (w.setCell ⟨b, 0, none⟩ u0).setCell ⟨b, 1, none⟩ u1
    V.cell? ⟨b, 0, none⟩ = some u0 ∧ V.cell? ⟨b, 1, none⟩ = some u1 ∧ Aside (@Sp X A w0 own V s L m ks vt vu) ∧ Aside (CellsO own 9 V b 29 [u0, u1]) := by
  intro V
  have c := (c6.it.1.setCell 0 u0).setCell 1 u1
  exact ⟨c.cell 0, c.cell 1, ⟨Sp.box E.it c6.it s0 s1 hx u0 u1⟩, ⟨c, c6.it.2⟩⟩

set_option maxRecDepth 20000 in
set_option maxHeartbeats 4000000 in
theorem step6 [X : Xs] (h : Sp A w0 own w s L m ks vt vu) (t : Tk) (id : Nat) (oa ma : Option Addr) (on oc mn mc : Nat) (ro : RdBo w0 (.slice oa on oc) bo) (rm : RdBo w0 (.slice ma mn mc) bm) (hbo : bo.length ≤ 9223372036854775807) (hbm : bm.length ≤ 9223372036854775807) (hm : m < 8796093022208) (hl : ks.length * 4 + 4 ≤ 140737488355328) :
    Calls Tryz.prog 6 #[ptr s, .agg #[vt, vu], .agg #[.int .i64 6, .int .i64 t.k, .int .u32 t.s, .int .u32 t.v, .int .u32 id, .slice oa on oc, .slice ma mn mc]] w fun e w' => ∃ vt' vu' own' L' m' ks', e = .returned (.tuple #[.agg #[vt', vu'], .bool true]) ∧ Aside (Sp A w0 own' w' s L' m' ks' vt' vu') ∧ Aside (m' ≤ m + 1 ∧ ks'.length ≤ ks.length + 1) := by
  obtain ⟨ta, tc, hvt, _, _, _⟩ := h.t.at
  obtain ⟨ua, uc, hvu, _, _, _, _⟩ := h.u.at
  obtain ⟨tn, htn⟩ : ∃ tn, tn = L.length := ⟨_, rfl⟩
  obtain ⟨un, hun⟩ : ∃ un, un = ks.length := ⟨_, rfl⟩
  rw [← htn] at hvt
  rw [← hun] at hvu
  subst hvt hvu
  obtain ⟨W0, hW0⟩ : ∃ W0, W0 = ((w.alloc (.cells #[.slice ta tn tc, .slice ua un uc] 29)).alloc (.cells #[.int .i64 6, .int .i64 t.k, .int .u32 t.s, .int .u32 t.v, .int .u32 id, .slice oa on oc, .slice ma mn mc] 38)).alloc (.cells #[.slice none 0 0, .slice none 0 0] 29) := ⟨_, rfl⟩
  have k0 : Keeps Nowhere w W0 := by rw [hW0]; exact (((Keeps.refl _ _).alloc _).alloc _).alloc _
  have q0 : Sn (fun _ => False) own w (give own w.heap.size 9) W0 := Sn.quiet k0 9
  have c4 : Cells W0 w.heap.size 29 [.slice ta tn tc, .slice ua un uc] := by rw [hW0]; exact (Cells.new w 29 [.slice ta tn tc, .slice ua un uc]).later (((Keeps.refl Nowhere _).alloc (.cells #[.int .i64 6, .int .i64 t.k, .int .u32 t.s, .int .u32 t.v, .int .u32 id, .slice oa on oc, .slice ma mn mc] 38)).alloc (.cells #[.slice none 0 0, .slice none 0 0] 29)) (fun x => x)
  have c5 : Cells W0 (w.heap.size + 1) 38 [.int .i64 6, .int .i64 t.k, .int .u32 t.s, .int .u32 t.v, .int .u32 id, .slice oa on oc, .slice ma mn mc] := by
    have c5 := (Cells.new (w.alloc (.cells #[.slice ta tn tc, .slice ua un uc] 29)) 38 [.int .i64 6, .int .i64 t.k, .int .u32 t.s, .int .u32 t.v, .int .u32 id, .slice oa on oc, .slice ma mn mc]).later ((Keeps.refl Nowhere _).alloc (.cells #[.slice none 0 0, .slice none 0 0] 29)) (fun x => x)
    rw [World.size_alloc] at c5
    rw [hW0]; exact c5
  have c6 : Cells W0 (w.heap.size + 1 + 1) 29 [.slice none 0 0, .slice none 0 0] := by
    have c6 := Cells.new ((w.alloc (.cells #[.slice ta tn tc, .slice ua un uc] 29)).alloc (.cells #[.int .i64 6, .int .i64 t.k, .int .u32 t.s, .int .u32 t.v, .int .u32 id, .slice oa on oc, .slice ma mn mc] 38)) 29 [.slice none 0 0, .slice none 0 0]
    rw [World.size_alloc, World.size_alloc] at c6
    rw [hW0]; exact c6
  obtain ⟨hsc, hrt, hot, hru, hou, hx⟩ := h
  obtain ⟨X', hX'⟩ : ∃ X' : Xs, X'.l = (w.heap.size + 1 + 1, 29, [.slice none 0 0, .slice none 0 0]) :: X.l := ⟨⟨_⟩, rfl⟩
  have P0 : Aside (@Sp X' A w0 (give own w.heap.size 9) W0 s L m ks (.slice ta tn tc) (.slice ua un uc)) := ⟨⟨hsc.sn q0 (fun x => x) (fun _ _ x => x), hrt.quiet k0, hot.sn q0, hru.quiet k0, hou.sn q0, fun p hp => by
    rw [hX'] at hp
    rcases List.mem_cons.1 hp with rfl | hp
    · exact ⟨c6, give_new (by omega)⟩
    · exact (hx p hp).sn q0 (fun x => x)⟩⟩
  have HX : Aside (∀ p ∈ X.l, p ∈ X'.l ∧ p.1 ≠ w.heap.size + 1 + 1) := ⟨fun p hp => ⟨by rw [hX']; exact List.mem_cons_of_mem _ hp, by have := (hx p hp).1.lt; omega⟩⟩
  have HH : Aside ((w.heap.size + 1 + 1, 29, [.slice none 0 0, .slice none 0 0]) ∈ X'.l) := ⟨by rw [hX']; exact List.mem_cons_self⟩
  generalize give own w.heap.size 9 = own0 at P0
  have NX := Aside.mk (@next_any _ _ _ _ _ _ _ _ _ _ _ _ X' P0.it 6 t id oa ma on oc mn mc ro rm hm hl hbo hbm)
  clear htn hun k0 q0 hX' ro rm hsc hrt hot hru hou hx
  go_enter Tryz.func6, Tryz.ntmps6
  go_upto_region 1 with fail
  rw [← hW0]
  clear hW0
  obtain ⟨b4, hb4⟩ : ∃ b, Aside (b = w.heap.size) := ⟨_, ⟨rfl⟩⟩
  obtain ⟨b5, hb5⟩ : ∃ b, Aside (b = w.heap.size + 1) := ⟨_, ⟨rfl⟩⟩
  obtain ⟨b6, hb6⟩ : ∃ b, Aside (b = w.heap.size + 1 + 1) := ⟨_, ⟨rfl⟩⟩
  rw [← hb6.it] at c6 HX HH
  rw [← hb5.it] at c5
  rw [← hb4.it] at c4
  rw [show w.heap.size + 2 = b6 from hb6.it.symm, ← hb5.it, ← hb4.it]
  have d0 := c4.cell 0
  have d1 := c4.cell 1
  have o0 := c5.cell 0
  have o1 := c5.cell 1
  have o2 := c5.cell 2
  have o3 := c5.cell 3
  have o4 := c5.cell 4
  have o5 := c5.cell 5
  have o6 := c5.cell 6
  simp only [List.getElem?_cons_zero, List.getElem?_cons_succ] at d0 d1 o0 o1 o2 o3 o4 o5 o6
  clear c4 c5 c6 hb4 hb5 hb6
  go_wp2_with (first | (go_at_call 25; refine NX.it.mono ?_; rintro e w5 ⟨vt', vu', own5, L5, K5, rfl, E5, HK5⟩; obtain ⟨h0, h2, hv1, _, _, _⟩ := E5.it.t.at; generalize L5.length = h1 at hv1; subst hv1; obtain ⟨i0, i2, hv2, _, _, _, _⟩ := E5.it.u.at; generalize K5.length = i1 at hv2; subst hv2; have C6 := Aside.mk (E5.it.x _ HH.it); obtain ⟨f0, f1, f2, f3⟩ : w5.cell? ⟨b6, 0, none⟩ = some (.slice none 0 0) ∧ w5.cell? ⟨b6, 1, none⟩ = some (.slice none 0 0) ∧ w5.frozen? ⟨b6, 0, none⟩ = false ∧ w5.frozen? ⟨b6, 1, none⟩ = false := ⟨C6.it.1.cell 0, C6.it.1.cell 1, C6.it.1.frozen 0, C6.it.1.frozen 1⟩) | fail)
  obtain ⟨y0, y1, E, _⟩ := Sp.boxed (X := X) (X' := X') E5 C6 rfl rfl HX.it (.slice h0 h1 h2) (.slice i0 i1 i2)
  generalize (w5.setCell ⟨b6, 0, none⟩ (.slice h0 h1 h2)).setCell ⟨b6, 1, none⟩ (.slice i0 i1 i2) = V at y0 y1 E ⊢
  refine bodyPost_ret (v := .tuple #[.agg #[.slice h0 h1 h2, .slice i0 i1 i2], .bool true]) (by simp [results, Tryz.results6, go_sem, y0, y1]) rfl ?_
  exact ⟨_, _, own5, _, _, _, rfl, E, ⟨by omega, by have := HK5.it; omega⟩⟩
end Go.Proofs.YtnohcbdnhpaafaaGreatDoor

/-
  SchedPlays: the step Next without data
-/
namespace Go.Proofs.YtnohcbdnhpaafaaGreatDoor
open Go.RowKit

variable {A : Nat → Addr} {w w' w0 W : World} {own own' : Nat → Nat} {s m m' : Nat} {ks ks' k1 : List Nat} {L L' L1 : List Tk} {vt vu : Value} {b5 b6 bn b9 b12 : Nat} {cs fr hs : List Value}
variable [Xs]

/-- a step's world, with a frame and a header -/
structure Sz (A : Nat → Addr) (w0 : World) (own : Nat → Nat) (s : Nat) (L : List Tk) (m : Nat) (ks : List Nat) (b5 b6 bn b9 b12 : Nat) (cs fr hs : List Value) (vt vu : Value) (L1 : List Tk) (k1 : List Nat) (W : World) : Prop where
  r : Sr A w0 own W s L m ks b5 b6 bn cs vt vu L1 k1
  c9 : Cells W b9 47 fr
  c12 : Cells W b12 44 hs
theorem Sz.quiet (h : Aside (Sz A w0 own s L m ks b5 b6 bn b9 b12 cs fr hs vt vu L1 k1 W)) (k : Keeps Nowhere W w') : Aside (Sz A w0 own s L m ks b5 b6 bn b9 b12 cs fr hs vt vu L1 k1 w') :=
  ⟨⟨(Sr.quiet ⟨h.it.r⟩ k).it, h.it.c9.later k (fun x => x), h.it.c12.later k (fun x => x)⟩⟩
theorem Sz.c62 (h : Aside (Sz A w0 own s L m ks b5 b6 bn b9 b12 cs fr hs vt vu L1 k1 W)) : W.cell? ⟨b6, 0, none⟩ = some (.slice none 0 0) ∧ W.cell? ⟨b6, 1, none⟩ = some (.slice none 0 0) ∧ W.frozen? ⟨b6, 0, none⟩ = false ∧ W.frozen? ⟨b6, 1, none⟩ = false := Sr.c62 ⟨h.it.r⟩
theorem Sz.s13 {a0 a1 a2 a3 a4 a5 h0 h1 h2 h3 h4 : Value} (h : Aside (Sz A w0 own s L m ks b5 b6 bn b9 b12 cs [a0, a1, a2, a3, a4, a5] [h0, h1, h2, h3, h4] vt vu L1 k1 W)) :
    (W.cell? ⟨bn, 0, none⟩ = some vt ∧ W.cell? ⟨bn, 1, none⟩ = some vu) ∧ (W.cell? ⟨b9, 0, none⟩ = some a0 ∧ W.cell? ⟨b9, 1, none⟩ = some a1 ∧ W.cell? ⟨b9, 2, none⟩ = some a2 ∧ W.cell? ⟨b9, 3, none⟩ = some a3 ∧ W.cell? ⟨b9, 4, none⟩ = some a4 ∧ W.cell? ⟨b9, 5, none⟩ = some a5) ∧ W.cell? ⟨b12, 0, none⟩ = some h0 ∧ W.cell? ⟨b12, 1, none⟩ = some h1 ∧ W.cell? ⟨b12, 2, none⟩ = some h2 ∧ W.cell? ⟨b12, 3, none⟩ = some h3 ∧ W.cell? ⟨b12, 4, none⟩ = some h4 :=
  ⟨⟨h.it.r.cn.1.cell 0, h.it.r.cn.1.cell 1⟩, ⟨h.it.c9.cell 0, h.it.c9.cell 1, h.it.c9.cell 2, h.it.c9.cell 3, h.it.c9.cell 4, h.it.c9.cell 5⟩, h.it.c12.cell 0, h.it.c12.cell 1, h.it.c12.cell 2, h.it.c12.cell 3, h.it.c12.cell 4⟩
theorem Sz.s13S {u0 u1 a0 a1 a2 a3 a4 a5 h0 h1 h2 h3 h4 : Value} (h : Aside (Sz A w0 own s L m ks b5 b6 bn b9 b12 cs [a0, a1, a2, a3, a4, a5] [h0, h1, h2, h3, h4] vt vu L1 k1 W)) :
    (fun W : World => (W.cell? ⟨bn, 0, none⟩ = some vt ∧ W.cell? ⟨bn, 1, none⟩ = some vu) ∧ (W.cell? ⟨b9, 0, none⟩ = some a0 ∧ W.cell? ⟨b9, 1, none⟩ = some a1 ∧ W.cell? ⟨b9, 2, none⟩ = some a2 ∧ W.cell? ⟨b9, 3, none⟩ = some a3 ∧ W.cell? ⟨b9, 4, none⟩ = some a4 ∧ W.cell? ⟨b9, 5, none⟩ = some a5) ∧ W.cell? ⟨b12, 0, none⟩ = some h0 ∧ W.cell? ⟨b12, 1, none⟩ = some h1 ∧ W.cell? ⟨b12, 2, none⟩ = some h2 ∧ W.cell? ⟨b12, 3, none⟩ = some h3 ∧ W.cell? ⟨b12, 4, none⟩ = some h4) ((W.setCell ⟨b6, 0, none⟩ u0).setCell ⟨b6, 1, none⟩ u1) := by
  have cn := cell_S h.it.r.cn.1 h.it.r.ne u0 u1
  have c9 := cell_S h.it.c9 (cells_ne h.it.c9 h.it.r.c6.1 (by decide)) u0 u1
  have c12 := cell_S h.it.c12 (cells_ne h.it.c12 h.it.r.c6.1 (by decide)) u0 u1
  exact ⟨⟨cn 0, cn 1⟩, ⟨c9 0, c9 1, c9 2, c9 3, c9 4, c9 5⟩, c12 0, c12 1, c12 2, c12 3, c12 4⟩
theorem sz_same (p t f i n : Int) (h : Aside (Sz A w0 own s L m ks b5 b6 bn b9 b12 cs fr hs vt vu L1 k1 W)) : Calls Tryz.prog 27 #[.agg #[.int .u8 p, .int .u8 t, .int .u16 f, .int .u32 i, .int .u32 n, .slice none 0 0], .agg #[.int .u8 p, .int .u8 t, .int .u16 f, .int .u32 i, .int .u32 n, .slice none 0 0]] W fun e w' => e = .returned (.bool true) ∧ Aside (Sz A w0 own s L m ks b5 b6 bn b9 b12 cs fr hs vt vu L1 k1 w') :=
  (same_fr p t f i n none none 0 0 0 0 [] (holds_no _) (holds_no _)).mono (by rintro e w' ⟨rfl, k⟩; exact ⟨rfl, Sz.quiet h k.it⟩)

set_option maxRecDepth 20000 in
set_option maxHeartbeats 8000000 in
theorem step7c (h : Sp A w0 own w s L m ks vt vu) (t : Tk) (id : Nat) (oa ma : Option Addr) (on oc mn mc : Nat) (ok : Bool) (fa fb fc fd : Int)
    (NX : Aside (∀ W ow, Sc A w0 ow W s L m ks → Calls Tryz.prog 9 #[ptr s, .nilFunc] W fun e w' => ∃ own', e = .returned (.tuple #[.agg #[.int .u8 0, .int .u8 fa, .int .u16 fb, .int .u32 fc, .int .u32 fd, .slice none 0 0], .bool ok]) ∧ Aside (Sc A w0 own' w' s L' m ks) ∧ Aside (Sn In6 ow W own' w')))
    (CT : Aside (∀ W, RdT W vt L → Calls Tryz.prog 26 #[.agg #[vt, vu]] W fun e w' => ∃ v', e = .returned (.tuple #[.agg #[v', vu], .agg #[.int .u8 0, .int .u8 fa, .int .u16 fb, .int .u32 fc, .int .u32 fd], .bool ok]) ∧ Aside (TN W w' vt v' L') ∧ Aside (Keeps Nowhere W w'))) :
    Calls Tryz.prog 6 #[ptr s, .agg #[vt, vu], .agg #[.int .i64 7, .int .i64 t.k, .int .u32 t.s, .int .u32 t.v, .int .u32 id, .slice oa on oc, .slice ma mn mc]] w fun e w' => ∃ vt' vu' own' L' m' ks', e = .returned (.tuple #[.agg #[vt', vu'], .bool true]) ∧ Aside (Sp A w0 own' w' s L' m' ks' vt' vu') ∧ Aside (m' ≤ m + 1 ∧ ks'.length ≤ ks.length + 1) := by
  obtain ⟨ta, tc, hvt, _, _, _⟩ := h.t.at
  obtain ⟨ua, uc, hvu, _, _, _, _⟩ := h.u.at
  obtain ⟨tn, htn⟩ : ∃ tn, tn = L.length := ⟨_, rfl⟩
  obtain ⟨un, hun⟩ : ∃ un, un = ks.length := ⟨_, rfl⟩
  rw [← htn] at hvt
  rw [← hun] at hvu
  subst hvt hvu
  have P0 := Sr.start h [.int .i64 7, .int .i64 t.k, .int .u32 t.s, .int .u32 t.v, .int .u32 id, .slice oa on oc, .slice ma mn mc]
  obtain ⟨W0, hW0⟩ : ∃ W0, W0 = ((w.alloc (.cells #[.slice ta tn tc, .slice ua un uc] 29)).alloc (.cells #[.int .i64 7, .int .i64 t.k, .int .u32 t.s, .int .u32 t.v, .int .u32 id, .slice oa on oc, .slice ma mn mc] 38)).alloc (.cells #[.slice none 0 0, .slice none 0 0] 29) := ⟨_, rfl⟩
  rw [← hW0] at P0
  generalize give own w.heap.size 10 = own0 at P0
  clear h htn hun
  go_enter Tryz.func6, Tryz.ntmps6
  go_upto_region 1 with fail
  rw [← hW0]
  clear hW0
  obtain ⟨b4, hb4⟩ : ∃ b, Aside (b = w.heap.size) := ⟨_, ⟨rfl⟩⟩
  obtain ⟨b5, hb5⟩ : ∃ b, Aside (b = w.heap.size + 1) := ⟨_, ⟨rfl⟩⟩
  obtain ⟨b6, hb6⟩ : ∃ b, Aside (b = w.heap.size + 1 + 1) := ⟨_, ⟨rfl⟩⟩
  rw [← hb6.it, ← hb5.it, ← hb4.it] at P0
  rw [show w.heap.size + 2 = b6 from hb6.it.symm, ← hb5.it, ← hb4.it]
  have o0 := P0.it.c5.1.cell 0
  simp only [List.getElem?_cons_zero] at o0
  go_upto_region 22 with (first | (go_at_call 9; refine (NX.it W0 own0 P0.it.sc).mono ?_; rintro e w3 ⟨own3, rfl, hs3, q3⟩) | fail)
  have P3 := Sr.sn P0 q3.it in6_9 in6_10 hs3.it
  clear o0 NX P0 q3 hs3
  obtain ⟨w4, hw4⟩ : ∃ w4, w4 = w3.alloc (.cells #[.int .u8 0, .int .u8 fa, .int .u16 fb, .int .u32 fc, .int .u32 fd, .slice none 0 0] 47) := ⟨_, rfl⟩
  have q4 : Sn (fun _ => False) own3 w3 (give own3 w3.heap.size 10) w4 := Sn.quiet (by rw [hw4]; exact (Keeps.refl _ _).alloc _) 10
  have P4 := Sr.sn P3 q4 (fun x => x) (fun x => x) (P3.it.sc.sn q4 (fun x => x) (fun _ _ x => x))
  have C9 : Aside (Cells w4 w3.heap.size 47 [.int .u8 0, .int .u8 fa, .int .u16 fb, .int .u32 fc, .int .u32 fd, .slice none 0 0]) := ⟨by rw [hw4]; exact Cells.new _ _ _⟩
  rw [← hw4]
  generalize give own3 w3.heap.size 10 = own4 at P4
  obtain ⟨b9, hb9⟩ : ∃ b, Aside (b = w3.heap.size) := ⟨_, ⟨rfl⟩⟩
  rw [← hb9.it] at C9 ⊢
  clear hw4 hb9 P3 q4
  obtain ⟨d0, d1⟩ := Sr.cn2 P4
  go_upto_region 23 with (first | (go_at_call 26; refine (CT.it w4 P4.it.t).mono ?_; rintro e w5 ⟨v1, rfl, T5, k5⟩; obtain ⟨h0, h2, hv1, _, _, _⟩ := T5.it.1.at; generalize L'.length = h1 at hv1; subst hv1) | fail)
  obtain ⟨w7, hw7⟩ : ∃ w7, w7 = (w5.alloc (.cells #[.slice h0 h1 h2, .slice ua un uc] 29)).alloc (.cells #[.int .u8 0, .int .u8 fa, .int .u16 fb, .int .u32 fc, .int .u32 fd] 44) := ⟨_, rfl⟩
  obtain ⟨own7, N7⟩ : ∃ own7, Aside (Sz A w0 own7 s L' m ks b5 b6 w5.heap.size b9 (w5.heap.size + 1) [.int .i64 7, .int .i64 t.k, .int .u32 t.s, .int .u32 t.v, .int .u32 id, .slice oa on oc, .slice ma mn mc] [.int .u8 0, .int .u8 fa, .int .u16 fb, .int .u32 fc, .int .u32 fd, .slice none 0 0] [.int .u8 0, .int .u8 fa, .int .u16 fb, .int .u32 fc, .int .u32 fd] (.slice h0 h1 h2) (.slice ua un uc) L' ks w7) := by
    have P6 := Sr.doc P4 k5.it T5.it (UN.same P4.it.u k5.it)
    have C6 := (C9.it.later k5.it (fun x => x)).later ((Keeps.refl Nowhere _).alloc (.cells #[.slice h0 h1 h2, .slice ua un uc] 29)) (fun x => x)
    have k7 : Keeps Nowhere (w5.alloc (.cells #[.slice h0 h1 h2, .slice ua un uc] 29)) w7 := by rw [hw7]; exact (Keeps.refl _ _).alloc _
    have c := Cells.new (w5.alloc (.cells #[.slice h0 h1 h2, .slice ua un uc] 29)) 44 [.int .u8 0, .int .u8 fa, .int .u16 fb, .int .u32 fc, .int .u32 fd]
    rw [World.size_alloc] at c
    exact ⟨_, ⟨⟨(Sr.quiet P6 k7).it, C6.later k7 (fun x => x), by rw [hw7]; exact c⟩⟩⟩
  rw [← hw7]
  obtain ⟨b12, hb12⟩ : ∃ b, Aside (b = w5.heap.size + 1) := ⟨_, ⟨rfl⟩⟩
  obtain ⟨b11, hb11⟩ : ∃ b, Aside (b = w5.heap.size) := ⟨_, ⟨rfl⟩⟩
  rw [← hb12.it, ← hb11.it] at N7 ⊢
  clear hw7 hb12 hb11 P4 C9 CT d0 d1 T5 k5
  have N7d := Sz.quiet N7 (Keeps.refl _ _).drew
  go_region_held3 (fun W => (W.cell? ⟨b11, 0, none⟩ = some (.slice h0 h1 h2) ∧ W.cell? ⟨b11, 1, none⟩ = some (.slice ua un uc)) ∧ (W.cell? ⟨b9, 0, none⟩ = some (.int .u8 0) ∧ W.cell? ⟨b9, 1, none⟩ = some (.int .u8 fa) ∧ W.cell? ⟨b9, 2, none⟩ = some (.int .u16 fb) ∧ W.cell? ⟨b9, 3, none⟩ = some (.int .u32 fc) ∧ W.cell? ⟨b9, 4, none⟩ = some (.int .u32 fd) ∧ W.cell? ⟨b9, 5, none⟩ = some (.slice none 0 0)) ∧ W.cell? ⟨b12, 0, none⟩ = some (.int .u8 0) ∧ W.cell? ⟨b12, 1, none⟩ = some (.int .u8 fa) ∧ W.cell? ⟨b12, 2, none⟩ = some (.int .u16 fb) ∧ W.cell? ⟨b12, 3, none⟩ = some (.int .u32 fc) ∧ W.cell? ⟨b12, 4, none⟩ = some (.int .u32 fd)) (first | with_reducible exact Sz.s13 (by with_reducible assumption) | with_reducible exact Sz.s13S (by with_reducible assumption)) (first
    | (go_at_call 27; refine (sz_same _ _ _ _ _ (by with_reducible assumption)).mono ?_; rintro e w8 ⟨rfl, N8⟩; obtain ⟨f0, f1, f2, f3⟩ := Sz.c62 N8)
    | fail)
  all_goals
    obtain ⟨y0, y1, E⟩ := Sr.fin ⟨N8.it.r⟩
    clear f0 f1 f2 f3
    generalize (w8.setCell ⟨b6, 0, none⟩ (.slice h0 h1 h2)).setCell ⟨b6, 1, none⟩ (.slice ua un uc) = V at y0 y1 E ⊢
    go_wp2
    refine bodyPost_ret (v := .tuple #[.agg #[.slice h0 h1 h2, .slice ua un uc], .bool true]) (by simp [results, Tryz.results6, go_sem, y0, y1]) rfl ?_
    exact ⟨_, _, _, _, _, _, rfl, E, ⟨by omega, by omega⟩⟩

theorem step7 (h : Sp A w0 own w s L m ks vt vu) (t : Tk) (id : Nat) (oa ma : Option Addr) (on oc mn mc : Nat) (hm : m < 8796093022208) :
    Calls Tryz.prog 6 #[ptr s, .agg #[vt, vu], .agg #[.int .i64 7, .int .i64 t.k, .int .u32 t.s, .int .u32 t.v, .int .u32 id, .slice oa on oc, .slice ma mn mc]] w fun e w' => ∃ vt' vu' own' L' m' ks', e = .returned (.tuple #[.agg #[vt', vu'], .bool true]) ∧ Aside (Sp A w0 own' w' s L' m' ks' vt' vu') ∧ Aside (m' ≤ m + 1 ∧ ks'.length ≤ ks.length + 1) := by
  obtain ⟨ua, uc, hvu, _, _, _, _⟩ := h.u.at
  have hbd := h.sc.bound
  cases L with
  | cons tk L =>
    have MAY := h.sc.may tk (by simp)
    refine step7c (L' := L) h t id oa ma on oc mn mc true (shF tk.k.toNat) (shG tk.k.toNat) tk.s tk.v ⟨fun W ow hh => next_tk tk hh (by omega) .nilFunc⟩ ⟨fun W hr => ?_⟩
    subst hvu
    exact refControl1 (w := W) tk ua _ uc hr MAY (by omega)
  | nil =>
    obtain ⟨ta, tc, hvt, _, _, _⟩ := h.t.at
    refine step7c (L' := []) h t id oa ma on oc mn mc false 0 0 0 0 ⟨fun W ow hh => ?_⟩ ⟨fun W hr => ?_⟩
    · exact (next_none hh).mono (by rintro e w' ⟨rfl, k⟩; exact ⟨ow, rfl, ⟨hh.quiet k.it⟩, ⟨Sn.same k.it⟩⟩)
    · subst hvt hvu
      exact (refControl0 ta ua tc _ uc W).mono (by rintro e w' ⟨rfl, k⟩; exact ⟨_, rfl, ⟨TN.same hr k.it⟩, k⟩)
end Go.Proofs.YtnohcbdnhpaafaaGreatDoor

/-
  SchedPlays: any step
-/
namespace Go.Proofs.YtnohcbdnhpaafaaGreatDoor
open Go.RowKit

variable {A : Nat → Addr} {w w' w0 W : World} {own own' : Nat → Nat} {s m m' : Nat} {ks ks' k1 : List Nat} {L L' L1 : List Tk} {vt vu c0 c1 : Value} {r : Nat} {bo bm : List Bool}

theorem step_any [Xs] (h : Sp A w0 own w s L m ks vt vu) (kind : Int) (t : Tk) (id : Nat) (ht : t.Wide) (hid : id ≤ 4294967295) (oa ma : Option Addr) (on oc mn mc : Nat) (ro : RdBo w0 (.slice oa on oc) bo) (rm : RdBo w0 (.slice ma mn mc) bm) (hbo : bo.length ≤ 9223372036854775807) (hbm : bm.length ≤ 9223372036854775807) (hm : m < 8796093022208) (hl : ks.length * 4 + 4 ≤ 140737488355328) :
    Calls Tryz.prog 6 #[ptr s, .agg #[vt, vu], .agg #[.int .i64 kind, .int .i64 t.k, .int .u32 t.s, .int .u32 t.v, .int .u32 id, .slice oa on oc, .slice ma mn mc]] w fun e w' => ∃ vt' vu' own' L' m' ks', e = .returned (.tuple #[.agg #[vt', vu'], .bool true]) ∧ Aside (Sp A w0 own' w' s L' m' ks' vt' vu') ∧ Aside (m' ≤ m + 1 ∧ ks'.length ≤ ks.length + 1) := by
  by_cases e1 : kind = 1
  · subst e1; exact step1 h t id ht oa ma on oc mn mc hm hl
  by_cases e2 : kind = 2
  · subst e2; exact step2 h t ht.s1 id hid oa ma on oc mn mc hm hl
  by_cases e3 : kind = 3
  · subst e3; exact step3 h t id hid oa ma on oc mn mc hm hl
  by_cases e4 : kind = 4
  · subst e4; exact step4 h t id hid oa ma on oc mn mc hm hl
  by_cases e5 : kind = 5
  · subst e5; exact step5 h t id hid oa ma on oc mn mc hm hl
  by_cases e6 : kind = 6
  · subst e6; exact step6 h t id oa ma on oc mn mc ro rm hbo hbm hm hl
  by_cases e7 : kind = 7
  · subst e7; exact step7 h t id oa ma on oc mn mc hm
  by_cases e9 : kind = 9
  · subst e9; exact step9 h t id oa ma on oc mn mc hm hl
  exact stepX h t id kind e1 e2 e3 e4 e5 e6 e7 e9 oa ma on oc mn mc hm hl

/-- a caller with one box -/
abbrev X1 (r : Nat) (c0 c1 : Value) : Xs := ⟨[(r, 29, [c0, c1])]⟩
abbrev X0 : Xs := ⟨[]⟩
theorem x1_c (h : Aside (@Sp (X1 r c0 c1) A w0 own W s L m ks vt vu)) : CellsO own 9 W r 29 [c0, c1] := by
  obtain ⟨_, _, _, _, _, x⟩ := h.it
  exact x (r, _, [c0, c1]) (show _ ∈ [_] from List.mem_singleton.2 rfl)
theorem x1_of {X : Xs} (h : Aside (@Sp X A w0 own W s L m ks vt vu)) (c : Aside (CellsO own 9 W r 29 [c0, c1])) : Aside (@Sp (X1 r c0 c1) A w0 own W s L m ks vt vu) := by
  obtain ⟨e1, e2, e3, e4, e5, _⟩ := h.it
  exact ⟨@Sp.mk (X1 r c0 c1) _ _ _ _ _ _ _ _ _ _ e1 e2 e3 e4 e5 (fun p hp => by
    have e : p = (r, 29, [c0, c1]) := List.mem_singleton.1 hp
    rw [e]
    exact c.it)⟩
theorem x1_quiet (h : Aside (@Sp (X1 r c0 c1) A w0 own W s L m ks vt vu)) (k : Keeps Nowhere W w') : Aside (@Sp (X1 r c0 c1) A w0 own w' s L m ks vt vu) := by
  have c := (x1_c h).quiet k
  obtain ⟨e1, e2, e3, e4, e5, _⟩ := h.it
  have q : Sn (fun _ => False) own W own w' := Sn.same k
  exact x1_of (X := X0) ⟨@Sp.mk X0 _ _ _ _ _ _ _ _ _ _ (e1.quiet k) (e2.quiet k) (e3.sn q) (e4.quiet k) (e5.sn q) (fun p hp => by cases hp)⟩ ⟨c⟩
theorem x1_sc (h : Aside (@Sp (X1 r c0 c1) A w0 own W s L m ks vt vu)) : Sc A w0 own W s L m ks ∧ RdT W vt L ∧ RdW W vu ks := by
  obtain ⟨e1, e2, e3, e4, e5, _⟩ := h.it
  exact ⟨e1, e2, e4⟩
theorem x1_put (h : Aside (@Sp (X1 r c0 c1) A w0 own W s L m ks vt vu)) (s0 : isSl c0 = true) (s1 : isSl c1 = true) : Aside (@Sp (X1 r vt vu) A w0 own ((W.setCell ⟨r, 0, none⟩ vt).setCell ⟨r, 1, none⟩ vu) s L m ks vt vu) := by
  obtain ⟨_, _, a, b⟩ := Sp.boxed (X := X0) h ⟨x1_c h⟩ s0 s1 (fun p hp => by cases hp) vt vu
  exact x1_of a b
theorem x1_start (h : Sc A w0 own w s [] m []) : Aside (@Sp (X1 w.heap.size (.slice none 0 0) (.slice none 0 0)) A w0 (give own w.heap.size 9) (w.alloc (.cells #[.slice none 0 0, .slice none 0 0] 29)) s [] m [] (.slice none 0 0) (.slice none 0 0)) := by
  have q : Sn (fun _ => False) own w (give own w.heap.size 9) (w.alloc (.cells #[.slice none 0 0, .slice none 0 0] 29)) := Sn.quiet ((Keeps.refl _ _).alloc _) 9
  exact x1_of (X := X0) ⟨@Sp.mk X0 _ _ _ _ _ _ _ _ _ _ (h.sn q (fun x => x) (fun _ _ x => x)) (rdT_none (Nat.zero_le _) (fun _ => rfl)) (fun b hb => by cases hb) (rdW_nil _) (fun b hb => by cases hb) (fun p hp => by cases hp)⟩ ⟨⟨Cells.new w _ _, give_new (Nat.le_refl _)⟩⟩
theorem x1_step (h : Aside (@Sp (X1 r c0 c1) A w0 own W s L m ks vt vu)) (kind : Int) (t : Tk) (id : Nat) (ht : t.Wide) (hid : id ≤ 4294967295) (oa ma : Option Addr) (on oc mn mc : Nat) (ro : RdBo w0 (.slice oa on oc) bo) (rm : RdBo w0 (.slice ma mn mc) bm) (hbo : bo.length ≤ 9223372036854775807) (hbm : bm.length ≤ 9223372036854775807) (hm : m < 8796093022208) (hl : ks.length * 4 + 4 ≤ 140737488355328) :
    Calls Tryz.prog 6 #[ptr s, .agg #[vt, vu], .agg #[.int .i64 kind, .int .i64 t.k, .int .u32 t.s, .int .u32 t.v, .int .u32 id, .slice oa on oc, .slice ma mn mc]] W fun e w' => ∃ h0 h1 h2 i0 i1 i2 own' L' m' ks', e = .returned (.tuple #[.agg #[.slice h0 h1 h2, .slice i0 i1 i2], .bool true]) ∧ Aside (@Sp (X1 r c0 c1) A w0 own' w' s L' m' ks' (.slice h0 h1 h2) (.slice i0 i1 i2)) ∧ Aside (m' ≤ m + 1 ∧ ks'.length ≤ ks.length + 1) := by
  refine (@step_any _ _ _ _ _ _ _ _ _ _ _ _ (X1 r c0 c1) h.it kind t id ht hid oa ma on oc mn mc ro rm hbo hbm hm hl).mono ?_
  rintro e w' ⟨vt', vu', own', L', m', ks', rfl, hs, hk⟩
  obtain ⟨_, e2, e3⟩ := x1_sc hs
  obtain ⟨h0, h2, rfl, _⟩ := e2.at
  obtain ⟨i0, i2, rfl, _⟩ := e3.at
  exact ⟨h0, _, h2, i0, _, i2, own', L', m', ks', rfl, hs, hk⟩
end Go.Proofs.YtnohcbdnhpaafaaGreatDoor

/-
  SchedPlays
-/
namespace Go.Proofs.YtnohcbdnhpaafaaGreatDoor
open Go.RowKit

theorem Sc.bel {A : Nat → Addr} {w w0 : World} {own : Nat → Nat} {s m : Nat} {L : List Tk} {ks : List Nat} (h : Sc A w0 own w s L m ks) : Below w0.heap.size w0 w := by
  obtain ⟨p, r, h⟩ := h
  exact h.ln.g.g.bel

section
variable {A : Nat → Addr} {w w' w0 W : World} {own own' : Nat → Nat} {s m m' : Nat} {ks ks' k1 : List Nat} {L L' L1 : List Tk} {vt vu c0 c1 d0 d1 u0 u1 z0 z1 : Value} {r r' : Nat} {bo bm : List Bool}
abbrev X2 (r : Nat) (c0 c1 : Value) (r' : Nat) (d0 d1 : Value) : Xs := ⟨[(r, 29, [c0, c1]), (r', 29, [d0, d1])]⟩
theorem x1_box0 (h : Aside (@Sp (X1 r c0 c1) A w0 own W s L m ks vt vu)) : Aside (@Sp (X1 r c0 c1) A w0 own (W.alloc (.cells #[z0, z1] 29)) s L m ks vt vu) := x1_quiet h ((Keeps.refl _ _).alloc _)
theorem x2_c (h : Aside (@Sp (X2 r c0 c1 r' d0 d1) A w0 own W s L m ks vt vu)) : CellsO own 9 W r 29 [c0, c1] ∧ CellsO own 9 W r' 29 [d0, d1] := by
  obtain ⟨_, _, _, _, _, x⟩ := h.it
  exact ⟨x (r, _, [c0, c1]) (show _ ∈ [_, _] from List.mem_cons_self), x (r', _, [d0, d1]) (show _ ∈ [_, _] from List.mem_cons_of_mem _ List.mem_cons_self)⟩
theorem x2_x1 (h : Aside (@Sp (X2 r c0 c1 r' d0 d1) A w0 own W s L m ks vt vu)) : Aside (@Sp (X1 r c0 c1) A w0 own W s L m ks vt vu) := x1_of h ⟨(x2_c h).1⟩
theorem x2_of {X : Xs} (h : Aside (@Sp X A w0 own W s L m ks vt vu)) (c : CellsO own 9 W r 29 [c0, c1]) (c' : CellsO own 9 W r' 29 [d0, d1]) : Aside (@Sp (X2 r c0 c1 r' d0 d1) A w0 own W s L m ks vt vu) := by
  obtain ⟨e1, e2, e3, e4, e5, _⟩ := h.it
  exact ⟨@Sp.mk (X2 r c0 c1 r' d0 d1) _ _ _ _ _ _ _ _ _ _ e1 e2 e3 e4 e5 (fun p hp => by
    have hp' : p ∈ [(r, 29, [c0, c1]), (r', 29, [d0, d1])] := hp
    simp only [List.mem_cons, List.not_mem_nil, or_false] at hp'
    rcases hp' with e | e
    · rw [e]; exact c
    · rw [e]; exact c')⟩
theorem x2_start (h : Aside (@Sp (X1 r c0 c1) A w0 own W s L m ks vt vu)) (z0 z1 : Value) : Aside (@Sp (X2 r c0 c1 W.heap.size z0 z1) A w0 (give own W.heap.size 9) (W.alloc (.cells #[z0, z1] 29)).drew s L m ks vt vu) := by
  have c := x1_c h
  obtain ⟨e1, e2, e3, e4, e5, _⟩ := h.it
  have k : Keeps Nowhere W (W.alloc (.cells #[z0, z1] 29)).drew := ((Keeps.refl _ _).alloc _).drew
  have q : Sn (fun _ => False) own W (give own W.heap.size 9) (W.alloc (.cells #[z0, z1] 29)).drew := Sn.quiet k 9
  exact x2_of (X := X0) ⟨@Sp.mk X0 _ _ _ _ _ _ _ _ _ _ (e1.sn q (fun x => x) (fun _ _ x => x)) (e2.quiet k) (e3.sn q) (e4.quiet k) (e5.sn q) (fun p hp => by cases hp)⟩ (c.sn q (fun x => x)) ⟨(Cells.new W 29 [z0, z1]).later (Keeps.refl Nowhere _).drew (fun x => x), give_new (Nat.le_refl _)⟩
theorem x2_cs (h : Aside (@Sp (X2 r c0 c1 r' d0 d1) A w0 own W s L m ks vt vu)) : W.cell? ⟨r', 0, none⟩ = some d0 ∧ W.cell? ⟨r', 1, none⟩ = some d1 ∧ W.frozen? ⟨r', 0, none⟩ = false ∧ W.frozen? ⟨r', 1, none⟩ = false := by
  have c := (x2_c h).2.1
  exact ⟨c.cell 0, c.cell 1, c.frozen 0, c.frozen 1⟩
theorem x2_put (hne : Aside (r ≠ r')) (h : Aside (@Sp (X2 r c0 c1 r' (.slice none 0 0) (.slice none 0 0)) A w0 own W s L m ks vt vu)) : Aside (@Sp (X1 r c0 c1) A w0 own ((W.setCell ⟨r', 0, none⟩ u0).setCell ⟨r', 1, none⟩ u1) s L m ks vt vu) := by
  obtain ⟨_, _, a, _⟩ := Sp.boxed (X := X1 r c0 c1) h ⟨(x2_c h).2⟩ rfl rfl (fun p hp => by
    have e : p = (r, 29, [c0, c1]) := List.mem_singleton.1 hp
    exact ⟨by rw [e]; exact List.mem_cons_self, by rw [e]; exact hne.it⟩) u0 u1
  exact a
theorem x2_putC (h : Aside (@Sp (X2 r c0 c1 r' d0 d1) A w0 own W s L m ks vt vu)) : Cells ((W.setCell ⟨r', 0, none⟩ u0).setCell ⟨r', 1, none⟩ u1) r' 29 [u0, u1] := ((x2_c h).2.1.setCell 0 u0).setCell 1 u1
theorem xs_step {X : Xs} (h : Aside (@Sp X A w0 own W s L m ks vt vu)) (kind : Int) (t : Tk) (id : Nat) (ht : t.Wide) (hid : id ≤ 4294967295) (oa ma : Option Addr) (ol oc ml mc : Nat) (ro : RdBo w0 (.slice oa ol oc) bo) (rm : RdBo w0 (.slice ma ml mc) bm) (hbo : bo.length ≤ 9223372036854775807) (hbm : bm.length ≤ 9223372036854775807) (hm : m < 8796093022208) (hl : ks.length * 4 + 4 ≤ 140737488355328) :
    Calls Tryz.prog 6 #[ptr s, .agg #[vt, vu], .agg #[.int .i64 kind, .int .i64 t.k, .int .u32 t.s, .int .u32 t.v, .int .u32 id, .slice oa ol oc, .slice ma ml mc]] W fun e w' => ∃ h0 h1 h2 i0 i1 i2 own' L' m' ks', e = .returned (.tuple #[.agg #[.slice h0 h1 h2, .slice i0 i1 i2], .bool true]) ∧ Aside (@Sp X A w0 own' w' s L' m' ks' (.slice h0 h1 h2) (.slice i0 i1 i2)) ∧ Aside (m' ≤ m + 1 ∧ ks'.length ≤ ks.length + 1) := by
  refine (@step_any _ _ _ _ _ _ _ _ _ _ _ _ X h.it kind t id ht hid oa ma ol oc ml mc ro rm hbo hbm hm hl).mono ?_
  rintro e w' ⟨vt', vu', own', L', m', ks', rfl, hs, hk⟩
  obtain ⟨_, e2, _, e3, _, _⟩ := hs.it
  obtain ⟨h0, h2, rfl, _⟩ := e2.at
  obtain ⟨i0, i2, rfl, _⟩ := e3.at
  exact ⟨h0, _, h2, i0, _, i2, own', L', m', ks', rfl, hs, hk⟩
end
set_option maxRecDepth 20000 in
set_option maxHeartbeats 16000000 in
theorem schedPlays_walk {A : Nat → Addr} (v : Value) (zs : List OpV13) (w : World) (h : St11 A w) (hz : Ops13Arg w v zs) :
    Calls Tryz.prog 3 #[v] w fun e w' => e = .returned (.bool true) ∧ Below w.heap.size w w' := by
  obtain ⟨hz, hzb⟩ := hz
  obtain ⟨sa, cap, rfl, hlc, hcm, hat⟩ := hz
  have HAT := Aside.mk hat
  obtain ⟨M, hM⟩ : ∃ M, M = zs.length := ⟨_, rfl⟩
  rw [← hM] at hlc hzb ⊢
  have HM := Aside.mk hM
  have hMb : (M : Int) ≤ 1759218604390 := by omega
  have hMc : (M : Int) ≤ cap := by omega
  have FX := Aside.mk (awake13 h)
  clear h hM hcm hat hzb
  go_enter Tryz.func3, Tryz.ntmps3
  go_upto_region 4 with (first
    | (go_at_call 4; refine FX.it.mono ?_; rintro e w1 ⟨rfl, k1⟩; obtain ⟨own1, g1⟩ := k1.it; have NW := Aside.mk (new_sc g1))
    | (go_at_call 5; refine NW.it.mono ?_; rintro e w2 ⟨s, own2, rfl, L2⟩)
    | fail)
  clear FX NW k1 g1
  obtain ⟨w3, hw3⟩ : ∃ w3, w3 = w2.alloc (.cells #[.slice none 0 0, .slice none 0 0] 29) := ⟨_, rfl⟩
  have P3 := x1_start L2.it
  rw [← hw3] at P3 ⊢
  generalize give own2 w2.heap.size 9 = own3 at P3
  obtain ⟨r4, hr4⟩ : ∃ b, Aside (b = w2.heap.size) := ⟨_, ⟨rfl⟩⟩
  rw [← hr4.it] at P3 ⊢
  clear hw3 hr4 L2
  go_wp2_with fail
  go_loopw [5] (fun iv wr => ∃ (q m : Nat) (L : List Tk) (ks : List Nat) (own : Nat → Nat) (ta : Option Addr) (tn tc : Nat) (ua : Option Addr) (un uc : Nat), iv = .int .i64 q ∧ q ≤ M ∧ Aside (@Sp (X1 r4 (.slice ta tn tc) (.slice ua un uc)) A w own wr s L m ks (.slice ta tn tc) (.slice ua un uc)) ∧ Aside (m ≤ q ∧ ks.length ≤ q)) (fun iv _ => M - (intOf iv).toNat)
  case atStart => exact ⟨0, 0, [], [], own3, none, 0, 0, none, 0, 0, rfl, Nat.zero_le _, P3, ⟨Nat.le_refl _, Nat.le_refl _⟩⟩
  case round =>
    clear P3
    obtain ⟨q, m, L, ks, own, ta, tn, tc, ua, un, uc, rfl, hq, P3, K3⟩ := hrel
    rcases Nat.eq_or_lt_of_le hq with rfl | hlt
    · go_wp2_with fail
      go_ret
      exact ⟨rfl, (x1_sc P3).1.bel⟩
    · have h1' : (q : Int) < M := by omega
      obtain ⟨z, hk⟩ : ∃ z, zs[q]? = some z := ⟨_, List.getElem?_eq_getElem (by rw [← HM.it]; exact hlt)⟩
      obtain ⟨b, o, cs, rfl, hok, hcl, hc⟩ := HAT.it q z hk
      obtain ⟨oa, oc, eo, _⟩ := id hok.o
      obtain ⟨ma, mc, em, _⟩ := id hok.m
      have HOK : Aside (z.t.Wide ∧ z.id ≤ 4294967295 ∧ RdBo w z.vo z.bo ∧ RdBo w z.vm z.bm ∧ z.bo.length ≤ 9223372036854775807 ∧ z.bm.length ≤ 9223372036854775807) := ⟨hok.t, hok.i, hok.o, hok.m, hok.lo, hok.lm⟩
      have ecs := hok.e
      subst ecs
      have RR : Aside (∀ W, Below w.heap.size w W → ∀ j u, j < 7 → z.cells[j]? = some u → W.cell? ⟨b, o + q * 7 + j, none⟩ = some u) := ⟨by
        intro W bel j u hj hu
        have := (hc j hj).trans hu
        rw [bel.cell (World.block_lt_of_cell? w _ this)]; exact this⟩
      clear hc hcl hk hok
      obtain ⟨kind, t, id, vo, vm, bo, bm⟩ := z
      simp only [List.length_map] at eo em HOK RR
      subst eo em
      obtain ⟨ol, hol⟩ : ∃ n, n = bo.length := ⟨_, rfl⟩
      obtain ⟨ml, hml⟩ : ∃ n, n = bm.length := ⟨_, rfl⟩
      have HBL : Aside (bo.length ≤ 9223372036854775807 ∧ bm.length ≤ 9223372036854775807) := ⟨HOK.it.2.2.2.2⟩
      rw [← hol, ← hml] at HOK RR
      clear hol hml
      have HC : Aside (∀ W own L m ks vt vu, Aside (@Sp (X1 r4 (.slice ta tn tc) (.slice ua un uc)) A w own W s L m ks vt vu) → (W.cell? ⟨r4, 0, none⟩ = some (.slice ta tn tc) ∧ W.cell? ⟨r4, 1, none⟩ = some (.slice ua un uc)) ∧ W.cell? ⟨b, o + q * 7, none⟩ = some (.int .i64 kind) ∧ W.cell? ⟨b, o + q * 7 + 1, none⟩ = some (.int .i64 t.k) ∧ W.cell? ⟨b, o + q * 7 + 2, none⟩ = some (.int .u32 t.s) ∧ W.cell? ⟨b, o + q * 7 + 3, none⟩ = some (.int .u32 t.v) ∧ W.cell? ⟨b, o + q * 7 + 4, none⟩ = some (.int .u32 id) ∧ W.cell? ⟨b, o + q * 7 + 5, none⟩ = some (.slice oa ol oc) ∧ W.cell? ⟨b, o + q * 7 + 6, none⟩ = some (.slice ma ml mc)) := ⟨fun W own L m ks vt vu P => by
        have c := (x1_c P).1
        have rr := RR.it W (x1_sc P).1.bel
        exact ⟨⟨c.cell 0, c.cell 1⟩, rr 0 _ (by decide) rfl, rr 1 _ (by decide) rfl, rr 2 _ (by decide) rfl, rr 3 _ (by decide) rfl, rr 4 _ (by decide) rfl, rr 5 _ (by decide) rfl, rr 6 _ (by decide) rfl⟩⟩
      have HM1 : m < 8796093022208 := by have := K3.it.1; omega
      have HL1 : ks.length * 4 + 4 ≤ 140737488355328 := by have := K3.it.2; omega
      have P3d := x1_quiet P3 (Keeps.refl _ _).drew
      have i3 : (0 : Int) ≤ q := by omega
      have ST : Aside (∀ (X : Xs) W own, Aside (@Sp X A w own W s L m ks (.slice ta tn tc) (.slice ua un uc)) → Calls Tryz.prog 6 #[ptr s, .agg #[.slice ta tn tc, .slice ua un uc], .agg #[.int .i64 kind, .int .i64 t.k, .int .u32 t.s, .int .u32 t.v, .int .u32 id, .slice oa ol oc, .slice ma ml mc]] W fun e w' => ∃ h0 h1 h2 i0 i1 i2 own' L' m' ks', e = .returned (.tuple #[.agg #[.slice h0 h1 h2, .slice i0 i1 i2], .bool true]) ∧ Aside (@Sp X A w own' w' s L' m' ks' (.slice h0 h1 h2) (.slice i0 i1 i2)) ∧ Aside (m' ≤ m + 1 ∧ ks'.length ≤ ks.length + 1)) := ⟨fun X W own P => xs_step P kind t id HOK.it.1 HOK.it.2.1 oa ma ol oc ml mc HOK.it.2.2.1 HOK.it.2.2.2.1 HBL.it.1 HBL.it.2 HM1 HL1⟩
      have HNE : Aside (r4 ≠ wr.heap.size) := ⟨by have := (x1_c P3).1.lt; omega⟩
      have P3e := x2_start P3 (.slice none 0 0) (.slice none 0 0)
      generalize give own wr.heap.size 9 = own4 at P3e
      clear HOK HBL
      go_upto_region 9 with fail
      go_region_held3 (fun W => (W.cell? ⟨r4, 0, none⟩ = some (.slice ta tn tc) ∧ W.cell? ⟨r4, 1, none⟩ = some (.slice ua un uc)) ∧ W.cell? ⟨b, o + q * 7, none⟩ = some (.int .i64 kind) ∧ W.cell? ⟨b, o + q * 7 + 1, none⟩ = some (.int .i64 t.k) ∧ W.cell? ⟨b, o + q * 7 + 2, none⟩ = some (.int .u32 t.s) ∧ W.cell? ⟨b, o + q * 7 + 3, none⟩ = some (.int .u32 t.v) ∧ W.cell? ⟨b, o + q * 7 + 4, none⟩ = some (.int .u32 id) ∧ W.cell? ⟨b, o + q * 7 + 5, none⟩ = some (.slice oa ol oc) ∧ W.cell? ⟨b, o + q * 7 + 6, none⟩ = some (.slice ma ml mc)) (first | with_reducible exact HC.it _ _ _ _ _ _ _ (by with_reducible assumption) | with_reducible exact HC.it _ _ _ _ _ _ _ (x1_box0 (by with_reducible assumption)) | with_reducible exact HC.it _ _ _ _ _ _ _ (x2_x1 (by with_reducible assumption)) | with_reducible exact HC.it _ _ _ _ _ _ _ (x2_put (by with_reducible assumption) (by with_reducible assumption))) (first
        | (go_at_call 6; with_reducible refine (ST.it (X1 r4 (.slice ta tn tc) (.slice ua un uc)) _ own (by with_reducible assumption)).mono ?_; rintro e w6 ⟨h0, h1, h2, j0, j1, j2, own6, L6, m6, k6, rfl, P6, K6⟩)
        | (go_at_call 6; with_reducible refine (ST.it (X2 r4 (.slice ta tn tc) (.slice ua un uc) wr.heap.size (.slice none 0 0) (.slice none 0 0)) _ own4 (by with_reducible assumption)).mono ?_; rintro e w6 ⟨h0, h1, h2, j0, j1, j2, own6, L6, m6, k6, rfl, P6, K6⟩; obtain ⟨f0, f1, f2, f3⟩ := x2_cs P6)
        | fail)
      all_goals
        rename_i hHeld
        clear hHeld ST RR HAT P3 P3d
        go_upto_region 10 with fail
        first
          | (have P7 := x1_box0 (z0 := .slice h0 h1 h2) (z1 := .slice j0 j1 j2) P6
             have C7 : Aside (Cells (w6.alloc (.cells #[.slice h0 h1 h2, .slice j0 j1 j2] 29)) w6.heap.size 29 [.slice h0 h1 h2, .slice j0 j1 j2]) := ⟨Cells.new w6 _ _⟩
             clear P6 P3e HNE
             generalize w6.alloc (.cells #[.slice h0 h1 h2, .slice j0 j1 j2] 29) = V at P7 C7 ⊢
             generalize w6.heap.size = b7 at C7 ⊢)
          | (have P7 := x2_put (u0 := .slice h0 h1 h2) (u1 := .slice j0 j1 j2) HNE P6
             have C7 : Aside (Cells ((w6.setCell ⟨wr.heap.size, 0, none⟩ (.slice h0 h1 h2)).setCell ⟨wr.heap.size, 1, none⟩ (.slice j0 j1 j2)) wr.heap.size 29 [.slice h0 h1 h2, .slice j0 j1 j2]) := ⟨x2_putC P6⟩
             clear P6 P3e HNE f0 f1 f2 f3
             generalize (w6.setCell ⟨wr.heap.size, 0, none⟩ (.slice h0 h1 h2)).setCell ⟨wr.heap.size, 1, none⟩ (.slice j0 j1 j2) = V at P7 C7 ⊢
             generalize wr.heap.size = b7 at C7 ⊢)
        have d0 := C7.it.cell 0
        have d1 := C7.it.cell 1
        simp only [List.getElem?_cons_zero, List.getElem?_cons_succ] at d0 d1
        have d2 := (HC.it _ _ _ _ _ _ _ P7).2.2.1
        have LK := Aside.mk (KeW.call (w1 := V) (fun W kk => looks_ok ((x1_sc P7).1.quiet kk) (by have := K6.it.1; omega) (by have := K6.it.2; omega) ((x1_sc P7).2.1.quiet kk) ((x1_sc P7).2.2.quiet kk) t.k))
        have c0 := fun n => KeW.cell d0 n
        have c1 := fun n => KeW.cell d1 n
        have c2 := fun n => KeW.cell d2 n
        clear d0 d1 d2 HC
        haveI : Nonempty (KeW V) := ⟨⟨V, Keeps.refl _ _⟩⟩
        refine wp_region_quietF (KeW.W (w1 := V)) (by kernel_rfl) (by kernel_rfl) ⟨V.drew, (Keeps.refl _ _).drew⟩ rfl ?_
        repeat (go_big_quiet_step (first | (go_at_call 7; exact LK.it _)))
        refine wpQuiet_nil ?_
        rintro _ ⟨n2, rfl⟩
        have P8 := x1_quiet P7 n2.ok
        have C8 : Aside (Cells n2.W b7 29 [.slice h0 h1 h2, .slice j0 j1 j2]) := ⟨C7.it.later n2.ok (fun x => x)⟩
        clear c0 c1 c2 LK P7 C7
        generalize n2.W = w8 at P8 C8 ⊢
        have d0 := C8.it.cell 0
        have d1 := C8.it.cell 1
        simp only [List.getElem?_cons_zero, List.getElem?_cons_succ] at d0 d1
        obtain ⟨f0, f1, f2, f3⟩ : w8.cell? ⟨r4, 0, none⟩ = some (.slice ta tn tc) ∧ w8.cell? ⟨r4, 1, none⟩ = some (.slice ua un uc) ∧ w8.frozen? ⟨r4, 0, none⟩ = false ∧ w8.frozen? ⟨r4, 1, none⟩ = false := ⟨(x1_c P8).1.cell 0, (x1_c P8).1.cell 1, (x1_c P8).1.frozen 0, (x1_c P8).1.frozen 1⟩
        go_upto_region 8 with fail
        have P9 := x1_put P8 rfl rfl
        clear d0 d1 f0 f1 f2 f3 P8 C8
        generalize (w8.setCell ⟨r4, 0, none⟩ (.slice h0 h1 h2)).setCell ⟨r4, 1, none⟩ (.slice j0 j1 j2) = w9 at P9 ⊢
        go_wp2
        go_roundw
        case rel => exact ⟨q + 1, m6, L6, k6, own6, h0, h1, h2, j0, j1, j2, by go_num, by omega, P9, ⟨by have := K3.it.1; have := K6.it.1; omega, by have := K3.it.2; have := K6.it.2; omega⟩⟩
        case measure => simp [intOf]; omega
end Go.Proofs.YtnohcbdnhpaafaaGreatDoor

