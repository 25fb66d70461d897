/-
  culvertlaw28.step: its memory; KGet, KPut
-/
import Derived.Test.YtcmgmhdlokcgbaaDoorLvB
namespace Go.Proofs.YtcmgmhdlokcgbaaDoor
open Go.RowKit Lulnn

variable {w w' w0 W W1 : World} {own own' o0 : Nat → Nat} {i c o j b q n rb tb : Nat} {room R k now : Int} {L L' M : List Rx} {I : Nat → Prop} {A : Nat → Addr} {x y : Rx} {z : Oz} {v va vb cv v2 : Value} {ks ms : List Int} {nl : Bool}

abbrev Bxs := List (Nat × TypeId × List Value)
/-- a step's memory, above the caller's world w0: a cache (1), boxes (8) -/
structure Sp (A : Nat → Addr) (w : World) (o0 : Nat → Nat) (w0 : World) (own : Nat → Nat) (W : World) (cv : Value) (nl : Bool) (room : Int) (L : List Rx) (X : Bxs) : Prop where
  og : OnG A w own W
  c : Cv own 1 W cv nl room L
  x : ∀ e ∈ X, CellsO own 8 W e.1 e.2.1 e.2.2 ∧ w0.heap.size ≤ e.1
  n : Sn (fun k => k = 1) o0 w0 own W
variable {X : Bxs}
theorem Sp.quiet (h : Sp A w o0 w0 own W cv nl room L X) (hk : Keeps Nowhere W w') : Sp A w o0 w0 own w' cv nl room L X :=
  ⟨h.og.quiet hk, h.c.quiet hk, fun e he => ⟨(h.x e he).1.sn (I := fun _ => False) (Sn.same hk) (fun x => x), (h.x e he).2⟩, h.n.trans (Sn.same hk)⟩
theorem Sp.step (h : Sp A w o0 w0 own W cv nl room L X) (hk : Keeps Nowhere W w') (r : Nat) : Sp A w o0 w0 (give own W.heap.size r) w' cv nl room L X :=
  ⟨h.og.sn (I := fun _ => False) (Sn.quiet hk r) (fun x => x), h.c.sn (I := fun _ => False) (Sn.quiet hk r) (fun x => x), fun e he => ⟨(h.x e he).1.sn (I := fun _ => False) (Sn.quiet hk r) (fun x => x), (h.x e he).2⟩, h.n.trans (Sn.quiet hk r)⟩
theorem Sp.move (h : Sp A w o0 w0 own W cv nl room L X) (hc : Cv own' 1 w' cv nl room L') (s : Sn (fun k => k = 1) own W own' w') : Sp A w o0 w0 own' w' cv nl room L' X :=
  ⟨h.og.sn s (by decide), hc, fun e he => ⟨(h.x e he).1.sn s (by decide), (h.x e he).2⟩, h.n.trans s⟩
theorem Sp.box (h : Sp A w o0 w0 own W cv nl room L X) (t : TypeId) (cs : List Value) : Sp A w o0 w0 (give own W.heap.size 8) (W.alloc (.cells cs.toArray t)) cv nl room L ((W.heap.size, t, cs) :: X) := by
  have k := h.step ((Keeps.refl _ _).alloc (.cells cs.toArray t)) 8
  refine { k with x := fun e he => ?_ }
  rcases List.mem_cons.1 he with rfl | he
  · exact ⟨⟨Cells.new W t cs, give_new (Nat.le_refl _)⟩, h.n.keeps.size⟩
  · exact k.x e he
abbrev bx3 (b : Nat) (room : Int) (v : Value) (z : Oz) : Bxs := [(b + 1 + 1, 31, [.int .i64 0, .slice none 0 0]), (b + 1, 38, z.cells), (b, 31, [.int .i64 room, v])]
theorem Sp.start (g : OnG A w own w0) (h : Cv own 1 w0 cv nl room L) (v : Value) (z : Oz) : Sp A w own w0 (give (give (give own w0.heap.size 8) (w0.heap.size + 1) 8) (w0.heap.size + 1 + 1) 8) (((w0.alloc (.cells #[.int .i64 room, v] 31)).alloc (.cells #[.int .i64 z.kd, .int .i64 z.k, .int .i64 z.v, .int .i64 z.w, .int .i64 z.u] 38)).alloc (.cells #[.int .i64 0, .slice none 0 0] 31)) cv nl room L (bx3 w0.heap.size room v z) := by
  have s0 : Sp A w own w0 own w0 cv nl room L [] := ⟨g, h, fun e he => (by cases he), Sn.refl _ _ _⟩
  have s1 := s0.box 31 [.int .i64 room, v]
  have s2 := s1.box 38 z.cells
  rw [World.size_alloc] at s2
  have s3 := s2.box 31 [.int .i64 0, .slice none 0 0]
  rw [World.size_alloc, World.size_alloc] at s3
  exact s3
/-- what a step reads -/
theorem Sp.args (h : Aside (Sp A w o0 w0 own W cv nl room L X)) (hx : ∀ e ∈ bx3 b room v z, e ∈ X) : (W.cell? ⟨b, 0, none⟩ = some (.int .i64 room) ∧ W.cell? ⟨b, 1, none⟩ = some v) ∧ W.cell? ⟨b + 1, 0, none⟩ = some (.int .i64 z.kd) ∧ W.cell? ⟨b + 1, 1, none⟩ = some (.int .i64 z.k) ∧ W.cell? ⟨b + 1, 2, none⟩ = some (.int .i64 z.v) ∧ W.cell? ⟨b + 1, 3, none⟩ = some (.int .i64 z.w) ∧ W.cell? ⟨b + 1, 4, none⟩ = some (.int .i64 z.u) := by
  have h1 := (h.it.x _ (hx (b, 31, [.int .i64 room, v]) (by simp [bx3]))).1.1
  have h2 := (h.it.x _ (hx (b + 1, 38, z.cells) (by simp [bx3]))).1.1
  exact ⟨⟨by rw [h1.cell]; rfl, by rw [h1.cell]; rfl⟩, by rw [h2.cell]; rfl, by rw [h2.cell]; rfl, by rw [h2.cell]; rfl, by rw [h2.cell]; rfl, by rw [h2.cell]; rfl⟩
theorem Sp.res (h : Aside (Sp A w o0 w0 own W cv nl room L X)) (hx : ∀ e ∈ bx3 b room v z, e ∈ X) : W.cell? ⟨b + 1 + 1, 0, none⟩ = some (.int .i64 0) ∧ W.cell? ⟨b + 1 + 1, 1, none⟩ = some (.slice none 0 0) ∧ W.frozen? ⟨b + 1 + 1, 0, none⟩ = false ∧ W.frozen? ⟨b + 1 + 1, 1, none⟩ = false := by
  have h1 := (h.it.x _ (hx (b + 1 + 1, 31, [.int .i64 0, .slice none 0 0]) (by simp [bx3]))).1.1
  exact ⟨by rw [h1.cell]; rfl, by rw [h1.cell]; rfl, h1.frozen 0, h1.frozen 1⟩
theorem Sp.tbox (h : Aside (Sp A w o0 w0 own W cv nl room L X)) (hx : (tb, 31, [.int .i64 room, v2]) ∈ X) : W.cell? ⟨tb, 0, none⟩ = some (.int .i64 room) ∧ W.cell? ⟨tb, 1, none⟩ = some v2 := by
  have h1 := (h.it.x _ hx).1.1
  exact ⟨by rw [h1.cell]; rfl, by rw [h1.cell]; rfl⟩
/-- what a step leaves -/
def EndS (A : Nat → Addr) (w : World) (o0 : Nat → Nat) (w0 : World) (cv : Value) (nl : Bool) (room : Int) (L' : List Rx) (e : Ending) (w' : World) : Prop := ∃ qa qn qc own', e = .returned (.tuple #[cch room (.slice qa qn qc), .bool true]) ∧ Aside (OnG A w own' w' ∧ Cv own' 1 w' cv nl room L' ∧ RdX own' w' (.slice qa qn qc) L') ∧ Aside (Sn (fun k => k = 1) o0 w0 own' w')
/-- the result is written -/
theorem Sp.fin {qa : Option Addr} {qn qc : Nat} (h : Aside (Sp A w o0 w0 own W cv nl room L X)) (hx : ∀ e ∈ bx3 b room v z, e ∈ X) (hd : RdX own W (.slice qa qn qc) L) :
    ((W.setCell ⟨b + 1 + 1, 0, none⟩ (.int .i64 room)).setCell ⟨b + 1 + 1, 1, none⟩ (.slice qa qn qc)).cell? ⟨b + 1 + 1, 0, none⟩ = some (.int .i64 room) ∧ ((W.setCell ⟨b + 1 + 1, 0, none⟩ (.int .i64 room)).setCell ⟨b + 1 + 1, 1, none⟩ (.slice qa qn qc)).cell? ⟨b + 1 + 1, 1, none⟩ = some (.slice qa qn qc) ∧ Aside (EndS A w o0 w0 cv nl room L (.returned (.tuple #[cch room (.slice qa qn qc), .bool true])) ((W.setCell ⟨b + 1 + 1, 0, none⟩ (.int .i64 room)).setCell ⟨b + 1 + 1, 1, none⟩ (.slice qa qn qc))) := by
  have h1 := h.it.x _ (hx (b + 1 + 1, 31, [.int .i64 0, .slice none 0 0]) (by simp [bx3]))
  have x2 := (h1.1.1.setCell 0 (.int .i64 room)).setCell 1 (.slice qa qn qc)
  have kk : Keeps (fun x => x = b + 1 + 1) W ((W.setCell ⟨b + 1 + 1, 0, none⟩ (.int .i64 room)).setCell ⟨b + 1 + 1, 1, none⟩ (.slice qa qn qc)) := ((Keeps.refl (fun x => x = b + 1 + 1) W).setCell ⟨b + 1 + 1, 0, none⟩ _ (fun _ => rfl)).setCell ⟨b + 1 + 1, 1, none⟩ _ (fun _ => rfl)
  have s8 : Sn (fun k => k = 8) own W own ((W.setCell ⟨b + 1 + 1, 0, none⟩ (.int .i64 room)).setCell ⟨b + 1 + 1, 1, none⟩ (.slice qa qn qc)) := ⟨fun _ _ => rfl, kk.mono (fun x e _ => by rw [e]; exact h1.1.2)⟩
  refine ⟨by rw [x2.cell]; rfl, by rw [x2.cell]; rfl, ⟨qa, qn, qc, own, rfl, ⟨h.it.og.sn s8 (by decide), h.it.c.sn s8 (by decide), hd.later kk (fun b' cur hc e => ?_)⟩, ⟨h.it.n.agree, h.it.n.keeps.next kk (fun x e hlt => by have := h1.2; omega)⟩⟩⟩
  have := h1.1.1
  rw [e, this] at hc
  simp at hc
/-- a box beside the result's -/
theorem Sp.keepT (h : Aside (Sp A w o0 w0 own W cv nl room L X)) (hx : (tb, 31, [.int .i64 room, v2]) ∈ X) (hne : tb ≠ b + 1 + 1) (u1 u2 : Value) : ((W.setCell ⟨b + 1 + 1, 0, none⟩ u1).setCell ⟨b + 1 + 1, 1, none⟩ u2).cell? ⟨tb, 0, none⟩ = some (.int .i64 room) ∧ ((W.setCell ⟨b + 1 + 1, 0, none⟩ u1).setCell ⟨b + 1 + 1, 1, none⟩ u2).cell? ⟨tb, 1, none⟩ = some v2 := by
  have h1 := ((h.it.x _ hx).1.1.setOther ⟨b + 1 + 1, 0, none⟩ u1 hne).setOther ⟨b + 1 + 1, 1, none⟩ u2 hne
  exact ⟨by rw [h1.cell]; rfl, by rw [h1.cell]; rfl⟩
set_option maxRecDepth 20000 in
set_option maxHeartbeats 4000000 in
theorem step_get (g : OnG A w own w0) (h : Cv own 1 w0 cv nl room L) (hd : RdX own w0 v L) (hz : z.Ok) (hk : z.kd = 2) (hmax : L.length * 32 ≤ 140737488355328) :
    Calls Tryd.prog 13 #[cv, cch room v, z.agg] w0 fun e w' => EndS A w own w0 cv nl room (getL L z.k z.u) e w' := by
  obtain ⟨W1, hW1⟩ : ∃ W1, ((w0.alloc (.cells #[.int .i64 room, v] 31)).alloc (.cells #[.int .i64 z.kd, .int .i64 z.k, .int .i64 z.v, .int .i64 z.w, .int .i64 z.u] 38)).alloc (.cells #[.int .i64 0, .slice none 0 0] 31) = W1 := ⟨_, rfl⟩
  have X1 := Aside.mk (Sp.start g h v z)
  rw [hW1] at X1
  generalize give (give (give own w0.heap.size 8) (w0.heap.size + 1) 8) (w0.heap.size + 1 + 1) 8 = own1 at X1
  have D1 := Aside.mk (hd.sn (I := fun k => k = 1) X1.it.n (by decide))
  obtain ⟨b, hb⟩ : ∃ b, w0.heap.size = b := ⟨_, rfl⟩
  rw [hb] at X1
  obtain ⟨⟨r0, r1⟩, p0, p1, p2, p3, p4⟩ := Sp.args X1 (fun e he => he)
  have GT := Aside.mk (cv_get X1.it.c (k := z.k) hz.k z.u)
  have HMX := Aside.mk hmax
  have q1 : (z.kd == 1) = false := by simp [hk]
  have q2 : (z.kd == 2) = true := by simp [hk]
  clear g h hd hk
  obtain ⟨a, n, c, rfl⟩ : ∃ a n c, v = .slice a n c := by obtain ⟨a, c, e, _⟩ := D1.it.sh; exact ⟨a, _, c, e⟩
  go_enter Tryd.func13, Tryd.ntmps13
  go_upto_region 1 with fail
  clear hb hW1
  go_upto_region 10 with (first | (go_at_call 18; refine GT.it.mono ?_; clear GT; rintro e w2 ⟨rfl, J2, S2⟩) | fail)
  have X2 := Aside.mk (X1.it.move J2.it S2.it)
  have D2 := Aside.mk (D1.it.sn S2.it (by decide))
  clear r0 r1 p0 p1 p2 p3 p4 X1 D1 J2 S2
  obtain ⟨⟨r0, r1⟩, p0, p1, p2, p3, p4⟩ := Sp.args X2 (fun e he => he)
  have DG := Aside.mk (dget28 D2.it room z.k z.u HMX.it)
  go_upto_region 11 with (first | (go_at_call 49; refine DG.it.mono ?_; clear DG; rintro e w3 ⟨qa, qn, qc, rfl, D3, K3⟩) | fail)
  have X3 := Aside.mk (X2.it.step K3.it 9)
  have X4 := Aside.mk (X3.it.box 31 [.int .i64 room, .slice qa qn qc])
  have D4 := Aside.mk (D3.it.sn (I := fun _ => False) (Sn.quiet ((Keeps.refl Nowhere w3).alloc (.cells [.int .i64 room, .slice qa qn qc].toArray 31)) 8) (fun x => x))
  clear X2 X3 D2 D3 r0 r1 p0 p1 p2 p3 p4
  generalize give (give own1 w2.heap.size 9) w3.heap.size 8 = own4 at X4 D4
  have e4 : w3.alloc (.cells [.int .i64 room, .slice qa qn qc].toArray 31) = w3.alloc (.cells #[.int .i64 room, .slice qa qn qc] 31) := rfl
  rw [e4] at X4 D4
  clear e4
  generalize w3.alloc (.cells #[.int .i64 room, .slice qa qn qc] 31) = w4 at X4 D4 ⊢
  generalize w3.heap.size = tb at X4 ⊢
  have hin : ∀ e ∈ bx3 b room (.slice a n c) z, e ∈ (tb, 31, [.int .i64 room, .slice qa qn qc]) :: bx3 b room (.slice a n c) z := fun e he => List.mem_cons_of_mem _ he
  obtain ⟨t0, t1⟩ := Sp.tbox X4 List.mem_cons_self
  obtain ⟨z0, z1, h0, h1⟩ := Sp.res X4 hin
  obtain ⟨u0, u1, FE⟩ := Sp.fin X4 hin D4.it
  have g1 : (gotT L z.k z.u == gotT L z.k z.u) = true := by simp
  generalize gotT L z.k z.u = gt at g1 ⊢
  have gb : (gotB L z.k z.u == gotB L z.k z.u) = true := by simp
  generalize gotB L z.k z.u = bt at gb ⊢
  clear hin
  cases bt
  · go_wp2_with fail
    refine bodyPost_ret (v := .tuple #[cch room (.slice qa qn qc), .bool true]) (by simp [results, Tryd.f13, go_sem, u0, u1]) rfl ?_
    exact FE.it
  · go_wp2_with fail
    refine bodyPost_ret (v := .tuple #[cch room (.slice qa qn qc), .bool true]) (by simp [results, Tryd.f13, go_sem, u0, u1]) rfl ?_
    exact FE.it
end Go.Proofs.YtcmgmhdlokcgbaaDoor
