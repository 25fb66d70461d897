/-
  RingMemory's world in its first half: the rings, the op's box, the list that is handed in with its spare room
-/
import Derived.Test.YtkmijhfimkcoiaaDoorRmC
import Derived.Test.YtkmijhfimkcoiaaDoorBase
import Derived.Deep.RegionHeld3
namespace Go.Proofs.YtkmijhfimkcoiaaDoor
open Go.RowKit Rint

variable {B : Nat} {X : Nat → TypeId → List Value → Prop} {w0 w w' W : World} {p i k : Nat} {R : Nat → Value} {C D : Nat → Nat} {L M : Nat → List Int} {V : Nat → Value} {own own' : Nat → Nat} {I : Nat → Prop} {v v' : Value} {l : List Int}

theorem Play2.one2 (h : Play2 B w0 X p R C D L M V own w) (i : Nat) (hi : i < 4) : w.cell? ⟨p, i, none⟩ = some (R i) ∧ w.cell? ⟨p, 4 + i * 2, none⟩ = some (.int .i64 (D i)) ∧ w.cell? ⟨p, 4 + i * 2 + 1, none⟩ = some (V i) := by
  obtain ⟨a, b, c⟩ := wcells_at R D V i hi
  exact ⟨(h.cells.1.cell i).trans a, (h.cells.1.cell _).trans b, (h.cells.1.cell _).trans c⟩
/-- a row of numbers in memory that is new since w -/
structure Bd (w W : World) (v : Value) (n : Nat) (xs : List Value) : Prop where
  k : Keeps Nowhere w W
  o : W.ownsRow w.heap.size 3 1 v n xs
theorem Bd.quiet {n : Nat} {xs : List Value} (h : Bd w W v n xs) (k : Keeps Nowhere W w') : Bd w w' v n xs := ⟨h.k.trans k, owns_later h.o k (fun _ _ x => x)⟩
def zz (n : Nat) : List Value := List.replicate n (.int .i64 0)
theorem run_make0 (m : Nat) (hm : m * 8 ≤ 140737488351232) : ∀ W, (Instr.makeSlice 27 (.int .i64 0) (.int .i64 ((m : Int) + 3))).run Tryd.prog W = .ok (.slice (some ⟨W.heap.size, 0, none⟩) 0 (m + 3)) (W.alloc (.cells (zz (m + 3)).toArray 3)) := by
  intro W
  obtain ⟨i, hi, hz0, hz1, hz2⟩ := info_parts infoI
  have h := run_make (P := Tryd.prog) W 27 3 i _ Tryd.underlying27 hi hz0 .i64 .i64 0 ((m + 3 : Nat) : Int) (by omega) (by omega) (by rw [hz2]; omega) (by omega)
  have hm : madeCells (Value.cells (.int .i64 0)) ((((m + 3 : Nat) : Int)).toNat * i.size) = (zz (m + 3)).toArray := by
    rw [hz1]
    apply Array.ext
    · simp [madeCells, zz]; omega
    · intro j h1 h2
      simp [madeCells, Nat.mod_one, zz, Value.cells]
  rw [hm] at h
  have e : ((m + 3 : Nat) : Int) = (m : Int) + 3 := by omega
  have e2 : ((m : Int) + 3).toNat = m + 3 := by omega
  rw [e, e2] at h
  exact h
theorem made_bd (m : Nat) (hm : m * 8 ≤ 140737488351232) (hk : Keeps Nowhere w W) : Bd w (W.alloc (.cells (zz (m + 3)).toArray 3)) (.slice (some ⟨W.heap.size, 0, none⟩) 0 (m + 3)) 0 [] :=
  ⟨hk.alloc _, by simp, .inr ⟨W.heap.size, m + 3, (zz (m + 3)).toArray, rfl, hk.size, heap_alloc_new W _, by omega, by unfold maxLen; omega, by simp [zz], by simp⟩⟩
theorem bd_app {n : Nat} {xs : List Value} (h : Bd w W v n xs) (sv : Value) (ys : List Value) (hr : ReadsOff Nowhere W sv ys) (hnil : NilOk sv) (h1 : ∀ u ∈ ys, u.oneCell' = true) (hb : (n + ys.length) * 8 ≤ 140737488355328) (hx : xs.length = n) :
    ∃ v' w', (∀ ty, (Builtin.append_ #[27, 27] ty #[v, sv]).run Tryd.prog W = .ok v' w') ∧ Bd w w' v' (n + ys.length) (xs ++ ys) ∧ Keeps (fun k => v.ownBlock = some k) W w' := by
  obtain ⟨i, hi, hz0, hz1, hz2⟩ := info_parts infoI
  obtain rfl : n = xs.length := hx.symm
  obtain ⟨v', w', run, o', g'⟩ := run_appendK (P := Tryd.prog) W w.heap.size 27 3 i _ 8 Tryd.underlying27 hi hz0 hz1 hz2 rfl v xs h.o sv ys hr hnil h1 hb (by unfold maxLen; omega) h.k.size
  have kk := grown_keeps g'
  refine ⟨v', w', run, ⟨h.k.next kk (fun k e hlt => ?_), by rw [List.length_append] at o'; exact o'⟩, kk⟩
  have := owns_base h.o k e
  omega
theorem step_bd {ops : Array Oper} {o : Oper} {a : Act} {K : Act → World → Prop} {Q : Exit → Act → World → Prop} {E : Prop} {n : Nat} {xs : List Value} (tmp : Tmp) (hdst : o.dst = some tmp) (hgd : o.guard = none) (s x : Operand)
    (ho : o.op = .call { callee := .builtin .append, args := #[s, x], argTypes := #[27, 27] }) (h : Bd w W v n xs) (sv : Value) (ys : List Value) (hr : ReadsOff Nowhere W sv ys ∧ NilOk sv) (h1 : ∀ u ∈ ys, u.oneCell' = true) (hb : (n + ys.length) * 8 ≤ 140737488355328) (hx : xs.length = n)
    (hs : a.eval s = v) (hxx : a.eval x = sv) (h2 : ∀ v' w', Aside (Bd w w' v' (n + ys.length) (xs ++ ys)) → Aside (Keeps (fun k => v.ownBlock = some k) W w') → K (a.put (some tmp) v') w') :
    if Region.wanted o (yielded ops a.tmps) = true then Oper.wp Tryd.prog o a W K Q else E := by
  obtain ⟨v', w', run, b', k'⟩ := bd_app h sv ys hr.1 hr.2 h1 hb hx
  exact step_appendK tmp hdst hgd s x 27 ho v sv v' w' hs hxx run (h2 v' w' ⟨b'⟩ ⟨k'⟩)
abbrev lit3 : List Int := [-91, -92, -93]
theorem lit_reads {b : Nat} (h : Cells W b 3 (iv lit3)) : ReadsOff Nowhere W (.slice (some ⟨b, 0, none⟩) 3 3) (iv lit3) ∧ NilOk (.slice (some ⟨b, 0, none⟩) 3 3) :=
  ⟨⟨_, _, rfl, Nat.le_refl _, fun j u hj => ⟨_, rfl, fun x => x, by rw [add_none, Nat.zero_add, h.cell]; exact hj⟩⟩, fun l c e => by injection e with e; cases e⟩
theorem bd_end {xs : List Int} {m n3 : Nat} (h : Bd w W v (0 + (iv xs).length + (iv lit3).length) ([] ++ iv xs ++ iv lit3)) (hm : xs.length = m) (h3 : n3 = m + 3) : ∃ g c, v = .slice (some ⟨g, 0, none⟩) n3 c ∧ Aside (n3 ≤ c ∧ Bd w W (.slice (some ⟨g, 0, none⟩) n3 c) n3 (iv (xs ++ lit3))) := by
  have e : 0 + (iv xs).length + (iv lit3).length = n3 := by rw [iv_length, iv_length, hm, h3]; simp
  rw [e, List.nil_append, iv_append] at h
  rcases h.o.2 with ⟨_, h0⟩ | ⟨g, cap, cur, rfl, _, _, hn, _⟩
  · omega
  · exact ⟨g, cap, rfl, ⟨hn, h⟩⟩
def OpKept (bo : Nat) (cs : List Value) : Nat → TypeId → List Value → Prop := fun g e c => g = bo ∧ e = 29 ∧ c = cs
/-- the rings, the op's box, the list (owner 41) that is handed in -/
structure Mp (B : Nat) (w0 : World) (X : Nat → TypeId → List Value → Prop) (p : Nat) (R : Nat → Value) (C : Nat → Nat) (L M : Nat → List Int) (V : Nat → Value) (u : Value) (ws : List Int) (own : Nat → Nat) (w : World) : Prop where
  pl : Play2 B w0 X p R C C L M V own w
  wh : OwR own 41 w 3 1 u ws.length (iv ws)
variable {u : Value} {ws : List Int}
theorem Mp.sn (h : Mp B w0 X p R C L M V u ws own w) (s : Sn I own w own' w') (hI : ∀ q, q ≤ 41 → ¬ I q) : Mp B w0 X p R C L M V u ws own' w' := ⟨h.pl.sn s (fun q hq => hI q (by omega)), h.wh.sn s (hI 41 (by decide))⟩
theorem Mp.quiet (h : Mp B w0 X p R C L M V u ws own w) (k : Keeps Nowhere w w') : Mp B w0 X p R C L M V u ws own w' := h.sn (I := fun _ => False) (Sn.same k) (fun _ _ x => x)
theorem Mp.begin (h : Play2 B w0 X p R C C L M V own w) (b : Bd w w' u ws.length (iv ws)) : Mp B w0 X p R C L M V u ws (give own w.heap.size 41) w' :=
  ⟨h.sn (I := fun _ => False) (Sn.quiet b.k 41) (fun _ _ x => x), OwR.new b.o⟩
theorem wh_cell (h : OwR own 41 w 3 1 u ws.length (iv ws)) {j : Nat} {y : Int} (hj : ws[j]? = some y) : ∃ b c, u = .slice (some ⟨b, 0, none⟩) ws.length c ∧ w.cell? ⟨b, j, none⟩ = some (.int .i64 y) := by
  rcases h.1.2 with ⟨_, h0⟩ | ⟨g, cap, cur, rfl, _⟩
  · rw [List.eq_nil_of_length_eq_zero h0] at hj
    simp at hj
  · refine ⟨g, cap, rfl, ?_⟩
    have := h.1.cells rfl j (eI y) (by unfold iv; rw [List.getElem?_map, hj]; rfl)
    rwa [add_none, Nat.zero_add] at this
theorem wh_put (h : OwR own 41 w 3 1 u ws.length (iv ws)) {i : Nat} (hi : i < ws.length) (t : Int) : ∃ b c u0, u = .slice (some ⟨b, 0, none⟩) ws.length c ∧ w.frozen? ⟨b, i, none⟩ = false ∧ w.cell? ⟨b, i, none⟩ = some u0 ∧ OwR own 41 (w.setCell ⟨b, i, none⟩ (eI t)) 3 1 u (ws.set i t).length (iv (ws.set i t)) ∧ Sn (fun q => q = 41) own w own (w.setCell ⟨b, i, none⟩ (eI t)) := by
  obtain ⟨b, c, e1, e2⟩ := wh_cell h (List.getElem?_eq_getElem hi)
  obtain ⟨ho, hb⟩ := h
  subst e1
  have K : Keeps (fun q => own q = 41) w (w.setCell ⟨b, i, none⟩ (eI t)) := (Keeps.refl _ _).setCell _ _ (fun _ => (hb b rfl).1)
  have o3 := owns_setCell ho i (by omega) (eI t)
  refine ⟨b, c, _, rfl, owns_frozen ho i, e2, ⟨?_, fun q hq => ⟨(hb q hq).1, Nat.lt_of_lt_of_le (hb q hq).2 K.size⟩⟩, ⟨fun _ _ => rfl, K⟩⟩
  unfold iv
  rw [List.length_set, List.map_set]
  exact o3
/-- the first m of the list that is handed in -/
theorem wh_reads {g c m : Nat} {xs ys : List Int} (h : OwR own 41 w 3 1 (.slice (some ⟨g, 0, none⟩) (xs ++ ys).length c) (xs ++ ys).length (iv (xs ++ ys))) (hm : xs.length = m) (hc : m ≤ c) {S : Nat → Prop} (hS : ∀ k, own k = 41 → ¬ S k) : ReadsOff S w (.slice (some ⟨g, 0, none⟩) m c) (iv xs) := by
  refine ⟨_, c, by rw [iv_length, hm], by rw [iv_length, hm]; exact hc, fun j t hj => ?_⟩
  unfold iv at hj
  rw [List.getElem?_map] at hj
  cases hy : xs[j]? with
  | none => rw [hy] at hj; cases hj
  | some y =>
    rw [hy] at hj
    simp only [Option.map_some, Option.some.injEq] at hj
    subst hj
    obtain ⟨b, c', e, hce⟩ := wh_cell h (j := j) (y := y) (by rw [List.getElem?_append_left (List.getElem?_eq_some_iff.1 hy).1]; exact hy)
    injection e with e1
    injection e1 with e1
    injection e1 with e1
    subst e1
    exact ⟨_, rfl, hS _ (h.2 g rfl).1, by rw [add_none, Nat.zero_add]; exact hce⟩
theorem mp_push (h : Mp B w0 X p R C L M V u ws own w) (i : Nat) (hi : i < 4) (src : Value) (xs : List Int) (hx : ReadsOff (fun k => own k = 10 + i) w src (iv xs)) (hl : xs.length ≤ 9223372036854775807) :
    Calls Tryd.prog 8 #[R i, src] w fun e w' => ∃ own', e = .returned (.int .i64 (Nat.min xs.length (C i - (L i).length) : Nat)) ∧ Aside (Mp B w0 X p R C (upd L i (L i ++ xs.take (C i - (L i).length))) M V u ws own' w') ∧ Aside (Sn (fun q => q = 10 + i) own w own' w') := by
  refine (pushV (h.pl.ring i hi) src (iv xs) hx (by rw [iv_length]; exact hl) (iv_one xs)).mono ?_
  rintro e w' ⟨rfl, hr, hk⟩
  rw [iv_length, iv_length]
  rw [iv_take, iv_append, iv_length] at hr
  have S : Sn (fun q => q = 10 + i) own w (give own w.heap.size (10 + i)) w' := ⟨fun k hlt => give_old hlt, hk⟩
  exact ⟨_, rfl, ⟨h.pl.step i hi _ _ S.agree (RingO.mine0 hr) hk, h.wh.sn S (by omega)⟩, ⟨S⟩⟩
/-- the document's answer behind a Push: called, then its box; or its box, then called -/
theorem now_a {w6 : World} {a : Option Addr} {m c : Nat} {x : Value} {xs : List Value} (r : ReadsOff (fun k => k < w.heap.size) w6 (.slice a m c) xs ∧ NilOk (.slice a m c) ∧ Keeps Nowhere w.drew w6) :
    Aside (Cells (w6.alloc (.cells #[x, .slice a m c] 32)) w6.heap.size 32 [x, .slice a m c] ∧ w.heap.size ≤ w6.heap.size ∧ ReadsOff (fun k => k < w.heap.size) (w6.alloc (.cells #[x, .slice a m c] 32)) (.slice a m c) xs ∧ NilOk (.slice a m c) ∧ Keeps Nowhere w (w6.alloc (.cells #[x, .slice a m c] 32))) := by
  have k1 : Keeps Nowhere w w6 := (Keeps.refl _ _).drew.trans r.2.2
  exact ⟨Cells.new w6 _ _, k1.size, r.1.below ((Keeps.refl Nowhere w6).alloc _).bel, r.2.1, k1.alloc _⟩
theorem now_b {w6 : World} {a : Option Addr} {m c : Nat} {x : Value} {xs : List Value} {ob : Obj} (r : ReadsOff (fun k => k < (w.alloc ob).heap.size) w6 (.slice a m c) xs ∧ NilOk (.slice a m c) ∧ Keeps Nowhere (w.alloc ob).drew w6) {y z : Value} (hob : ob = .cells #[y, z] 32) :
    Aside (Cells ((w6.setCell ⟨w.heap.size, 0, none⟩ x).setCell ⟨w.heap.size, 1, none⟩ (.slice a m c)) w.heap.size 32 [x, .slice a m c] ∧ w.heap.size ≤ w.heap.size ∧ ReadsOff (fun k => k < w.heap.size) ((w6.setCell ⟨w.heap.size, 0, none⟩ x).setCell ⟨w.heap.size, 1, none⟩ (.slice a m c)) (.slice a m c) xs ∧ NilOk (.slice a m c) ∧ Keeps Nowhere w ((w6.setCell ⟨w.heap.size, 0, none⟩ x).setCell ⟨w.heap.size, 1, none⟩ (.slice a m c))) := by
  subst hob
  have cc := ((Cells.new w 32 [y, z]).drew).later r.2.2 (fun x => x)
  have k1 : Keeps Nowhere w w6 := ((Keeps.refl _ _).alloc _).drew.trans r.2.2
  have k2 : Keeps (fun k => k = w.heap.size) w6 ((w6.setCell ⟨w.heap.size, 0, none⟩ x).setCell ⟨w.heap.size, 1, none⟩ (.slice a m c)) := ((Keeps.refl (fun k => k = w.heap.size) w6).setCell ⟨w.heap.size, 0, none⟩ x (fun _ => rfl)).setCell ⟨w.heap.size, 1, none⟩ _ (fun _ => rfl)
  refine ⟨(cc.setCell 0 x).setCell 1 _, Nat.le_refl _, ?_, r.2.1, k1.next k2 (fun k e hlt => by omega)⟩
  exact (r.1.later (k2.mono (fun k e _ => by rw [World.size_alloc]; omega))).mono (fun k e _ => .inl (by rw [World.size_alloc]; omega))
/-- the document's ring i in its box, with what a Drop or a Push answers of it -/
structure Nx (p i : Nat) (C : Nat → Nat) (W : World) (a : Option Addr) (m c : Nat) (l : List Int) (w' : World) : Prop where
  r : ReadsOff (fun k => k < W.heap.size) w' (.slice a m c) (iv l)
  n : NilOk (.slice a m c)
  k : Keeps Nowhere W w'
variable {wv av : Value} {wl : List Int} {vs : List Value} {f : Nat → List Int}
theorem Mw.model {W : World} {a : Option Addr} {m c : Nat} (h : Mw B w0 p R C L M V wv wl av vs f own W) (hi : i < 4) (x : Nx p i C W a m c l w') :
    Mw B w0 p R C L (upd M i l) (upd V i (.slice a m c)) wv wl av vs f (give own W.heap.size (20 + i)) ((w'.setCell ⟨p, 4 + i * 2, none⟩ (.int .i64 (C i))).setCell ⟨p, 4 + i * 2 + 1, none⟩ (.slice a m c)) ∧ Sn (fun q => q = 7) own W (give own W.heap.size (20 + i)) ((w'.setCell ⟨p, 4 + i * 2, none⟩ (.int .i64 (C i))).setCell ⟨p, 4 + i * 2 + 1, none⟩ (.slice a m c)) := by
  have h1 := h.idle (Sn.quiet x.k (20 + i))
  have r1 : ReadsO (give own W.heap.size (20 + i)) (20 + i) w' (.slice a m c) (iv l) := fresh_reads (20 + i) x.r x.n
  have h2 := h1.pl.setModel i hi (C i) _ _ r1
  rw [upd_self] at h2
  have s1 : Sn (fun q => q = 7) (give own W.heap.size (20 + i)) w' (give own W.heap.size (20 + i)) ((w'.setCell ⟨p, 4 + i * 2, none⟩ (.int .i64 (C i))).setCell ⟨p, 4 + i * 2 + 1, none⟩ (.slice a m c)) := ⟨fun _ _ => rfl, ((Keeps.refl _ _).setCell _ _ (fun _ => h1.pl.cells.2)).setCell _ _ (fun _ => h1.pl.cells.2)⟩
  exact ⟨⟨h2, h1.wt.sn s1 (by decide), h1.all.sn s1 (by decide), fun j u e => (h1.xs j u e).sn' s1 (by omega)⟩, (Sn.quiet (I := fun q => q = 7) x.k (20 + i)).trans s1⟩
theorem Mw.keep {W : World} (h : Mw B w0 p R C L M V wv wl av vs f own W) (hi : i < 4) {va : Option Addr} {ml vc : Nat} (hv : V i = .slice va ml vc) (k : Keeps Nowhere W w') : w'.cell? ⟨p, 4 + i * 2, none⟩ = some (.int .i64 (C i)) ∧ w'.cell? ⟨p, 4 + i * 2 + 1, none⟩ = some (.slice va ml vc) ∧ w'.frozen? ⟨p, 4 + i * 2, none⟩ = false ∧ w'.frozen? ⟨p, 4 + i * 2 + 1, none⟩ = false := by
  have h1 := h.quiet k
  obtain ⟨_, a, b⟩ := h1.pl.one2 i hi
  exact ⟨a, by rw [b, hv], h1.pl.cells.1.frozen _, h1.pl.cells.1.frozen _⟩
theorem Mw.len (h : Mw B w0 p R C L M V wv wl av vs f own w) (hi : i < 4) : ∃ va vc, V i = .slice va (M i).length vc := by
  obtain ⟨va, vc, e, _⟩ := (h.pl.row i hi).1
  rw [iv_length] at e
  exact ⟨va, vc, e⟩
theorem m_rdrop (h : Mw B w0 p R C L M V wv wl av vs f own w) (hi : i < 4) {va : Option Addr} {ml vc : Nat} (hv : V i = .slice va ml vc) (hl : (M i).length ≤ 2147483647) (n : Int) {m4 : Nat} (hm : ((M i).drop n.toNat).length = m4) :
    Calls Tryd.prog 14 #[.agg #[.int .i64 (C i), .slice va ml vc], .int .i64 n] w fun e w' => ∃ (a4 : Option Addr) (c4 : Nat), e = .returned (.tuple #[.agg #[.int .i64 (C i), .slice a4 m4 c4], .int .i64 (Nat.min n.toNat (M i).length : Nat)]) ∧ Aside (Nx p i C w a4 m4 c4 ((M i).drop n.toNat) w') ∧ w'.cell? ⟨p, 4 + i * 2, none⟩ = some (.int .i64 (C i)) ∧ w'.cell? ⟨p, 4 + i * 2 + 1, none⟩ = some (.slice va ml vc) ∧ w'.frozen? ⟨p, 4 + i * 2, none⟩ = false ∧ w'.frozen? ⟨p, 4 + i * 2 + 1, none⟩ = false := by
  have hr := h.pl.row i hi
  rw [hv] at hr
  refine (refDrop_ok w (C i) _ (M i) hr.plain hr.2 hl n).mono ?_
  rintro e w' ⟨v', rfl, r, nn, k⟩
  obtain ⟨a4, c4, e4, _⟩ := id r
  rw [iv_length, hm] at e4
  subst e4
  exact ⟨a4, c4, rfl, ⟨⟨r, nn, k⟩⟩, h.keep hi hv k⟩
theorem m_rpush (h : Mw B w0 p R C L M V wv wl av vs f own w) (hi : i < 4) {va : Option Addr} {ml vc : Nat} (hv : V i = .slice va ml vc) (hl : (M i).length ≤ C i) (hc : C i ≤ 2147483647) (src : Value) (xs : List Int) (hx : ReadsOff Nowhere w src (iv xs) ∧ NilOk src) (hxl : xs.length ≤ 1000) {m4 : Nat} (hm : (M i ++ xs.take (C i - (M i).length)).length = m4) :
    Calls Tryd.prog 7 #[.agg #[.int .i64 (C i), .slice va ml vc], src] w fun e w' => ∃ (a4 : Option Addr) (c4 : Nat), e = .returned (.tuple #[.agg #[.int .i64 (C i), .slice a4 m4 c4], .int .i64 (Nat.min xs.length (C i - (M i).length) : Nat)]) ∧ Aside (Nx p i C w a4 m4 c4 (M i ++ xs.take (C i - (M i).length)) w') ∧ w'.cell? ⟨p, 4 + i * 2, none⟩ = some (.int .i64 (C i)) ∧ w'.cell? ⟨p, 4 + i * 2 + 1, none⟩ = some (.slice va ml vc) ∧ w'.frozen? ⟨p, 4 + i * 2, none⟩ = false ∧ w'.frozen? ⟨p, 4 + i * 2 + 1, none⟩ = false := by
  have hr := h.pl.row i hi
  rw [hv] at hr
  refine (refPush_ok w (C i) _ (M i) xs src hr.plain hr.2 hx.1 hx.2 hl hc (by omega) _ rfl).mono ?_
  rintro e w' ⟨v', rfl, r, nn, k⟩
  obtain ⟨a4, c4, e4, _⟩ := id r
  rw [iv_length, hm] at e4
  subst e4
  exact ⟨a4, c4, rfl, ⟨⟨r, nn, k⟩⟩, h.keep hi hv k⟩
theorem Mw.at (h : Mw B w0 p R C L M V wv wl av vs f own w) (s : Sn (fun q => q = 98 ∨ q = 100 + k) own w own' w') (hv : vs[k]? = some v) (hX : XA own' w' k v l) : Mw B w0 p R C L M V wv wl av vs (fun j => if j = k then l else f j) own' w' := by
  refine ⟨h.pl.sn s (fun q hq => by omega), h.wt.sn s (by omega), h.all.sn s (by omega), fun j u e => ?_⟩
  by_cases hj : j = k
  · subst hj
    rw [hv] at e
    injection e with e
    subst e
    rw [if_pos rfl]
    exact hX
  · rw [if_neg hj]
    exact (h.xs j u e).sn' s (by omega)
abbrev l123 : List Int := [1, 2, 3]
theorem lit_reads2 {b : Nat} (h : Cells W b 3 (iv l123)) {S : Nat → Prop} (hS : ¬ S b) : ReadsOff S W (.slice (some ⟨b, 0, none⟩) 3 3) (iv l123) ∧ NilOk (.slice (some ⟨b, 0, none⟩) 3 3) :=
  ⟨⟨_, _, rfl, Nat.le_refl _, fun j u hj => ⟨_, rfl, hS, by rw [add_none, Nat.zero_add, h.cell]; exact hj⟩⟩, fun l c e => by injection e with e; cases e⟩
theorem Bd.form {n : Nat} {xs : List Value} (h : Bd w W v (n + 1) xs) : ∃ g c, v = .slice (some ⟨g, 0, none⟩) (n + 1) c := by
  rcases h.o.2 with ⟨_, h0⟩ | ⟨g, cap, cur, rfl, _⟩
  · omega
  · exact ⟨g, cap, rfl⟩
end Go.Proofs.YtkmijhfimkcoiaaDoor
