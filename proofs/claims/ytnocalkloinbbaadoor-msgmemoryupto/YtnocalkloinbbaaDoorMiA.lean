/-
  culvertlaw27.MsgMemory: a round's world
-/
import Derived.Test.YtnocalkloinbbaaDoorMhB
import Derived.Test.YtnocalkloinbbaaDoorMsG
import Derived.Test.YtnocalkloinbbaaDoorOpenPs
import Derived.Test.YtnocalkloinbbaaDoorKeQ
import Derived.Test.YtnocalkloinbbaaDoorRowsS
import Derived.Laws.MakeOwn
namespace Go.Proofs.YtnocalkloinbbaaDoor
open Go.RowKit

section
variable {A : Nat → Addr} {w w' W w0 w1 : World} {own own' : Nat → Nat} {p p' most mb : Nat} {F B bs : List Int} {v vq fv ev : Value} {O : MOut} {zs : List PcV} {I : Nat → Prop}
def natJ (v : Value) : Nat := match v with | .int _ x => x.toNat | _ => 0
/-- the error that a number is -/
def errV (A : Nat → Addr) (k : Int) : Value := if k = 0 then .nilIface else .iface 74 (.pointer (some (A (k - 1).toNat)))
theorem Coded.val {x : Value} {k : Int} (h : Coded A x k) : x = errV A k := by
  unfold errV
  rcases h with ⟨rfl, rfl⟩ | ⟨i, h1, h2, rfl, rfl⟩
  · rfl
  · rw [if_neg (by omega), show ((i : Int) + 1 - 1).toNat = i by omega]
theorem fed_out (most : Nat) (F B : List Int) : (parseM most (fedM most F B)).rest = (outM most (parseM most F).rest (parseM most F).dead B).rest ∧ (parseM most (fedM most F B)).dead = (outM most (parseM most F).rest (parseM most F).dead B).dead ∧ gotM most F B = (outM most (parseM most F).rest (parseM most F).dead B).ms := by
  rw [fedM_next]
  unfold gotM outM
  cases hd : (parseM most F).dead with
  | true => exact ⟨rfl, rfl, rfl⟩
  | false => exact ⟨rfl, rfl, rfl⟩
theorem held_same (F : List Int) : restM (parseM most F) = (parseM most F).rest.length := by
  unfold restM
  split
  · rename_i h; rw [parse_rest_dead h]; rfl
  · rfl
theorem done_same (F : List Int) : doneM (parseM most F) = doneC (parseM most F).rest (parseM most F).dead := by
  unfold doneM doneC
  rw [held_same]
/-- bytes that are read: if there are any, in a block that is j's -/
def RdP (own : Nat → Nat) (j : Nat) (W : World) (v : Value) (ns : List Int) : Prop := Rd W v ns ∧ (ns ≠ [] → ∀ g, v.ownBlock = some g → own g = j)
theorem RdP.sx {j : Nat} {ns : List Int} (h : RdP own j W v ns) (s : Sx I own W own' w') (hj : ¬ I j) : RdP own' j w' v ns := by
  by_cases hn : ns = []
  · subst hn
    obtain ⟨⟨a, c, rfl, hl, _⟩, h2⟩ := h.1
    exact ⟨⟨⟨a, c, rfl, hl, fun k u hk => by simp [bv] at hk⟩, h2⟩, fun e => absurd rfl e⟩
  · obtain ⟨g, o, c, rfl, _, hc⟩ := Rd.at h.1 hn
    obtain ⟨y, ys, rfl⟩ : ∃ y ys, ns = y :: ys := by cases ns with | nil => exact absurd rfl hn | cons y ys => exact ⟨y, ys, rfl⟩
    have hlt := World.block_lt_of_cell? W _ (hc 0 (.int .u8 y) rfl)
    have hr : RdO own j W (.slice (some ⟨g, o, none⟩) (y :: ys).length c) (y :: ys) := ⟨h.1, fun g' hg => ⟨by simp only [Value.ownBlock, Option.some.injEq] at hg; subst hg; exact hlt, h.2 hn g' hg⟩⟩
    have r2 := hr.sx s hj
    exact ⟨r2.1, fun _ g' hg => (r2.2 g' hg).2⟩
/-- in every world that only more memory parts from W -/
def Ke (W : World) (f : FuncId) (args : Array Value) (v : Value) : Prop := ∀ W', Keeps Nowhere W W' → Calls Tryd.prog f args W' fun e w' => e = .returned v ∧ Aside (Keeps Nowhere W' w')
theorem Ke.drew {f : FuncId} {args : Array Value} (h : ∀ W', Keeps Nowhere W W' → Calls Tryd.prog f args W' fun e w' => e = .returned v ∧ ∃ m, w' = W'.drewN m) : Ke W f args v := fun W' k => (h W' k).mono (by rintro e w' ⟨rfl, m, rfl⟩; exact ⟨rfl, ⟨(Keeps.refl _ _).drewN m⟩⟩)
theorem Ke.still {f : FuncId} {args : Array Value} (h : ∀ W', Keeps Nowhere W W' → Calls Tryd.prog f args W' fun e w' => e = .returned v ∧ w' = W') : Ke W f args v := fun W' k => (h W' k).mono (by rintro e w' ⟨rfl, rfl⟩; exact ⟨rfl, ⟨Keeps.refl _ _⟩⟩)
theorem Ke.below {f : FuncId} {args : Array Value} (h : ∀ W', Keeps Nowhere W W' → Calls Tryd.prog f args W' fun e w' => e = .returned v ∧ Aside (Below W'.heap.size W' w')) : Ke W f args v := fun W' k => (h W' k).mono (by rintro e w' ⟨rfl, hb⟩; exact ⟨rfl, ⟨Keeps.ofBelow hb.it⟩⟩)
theorem lm_held {l : List Int} {dead : Bool} (L : Lm A w0 own W p most l dead) : Ke W 10 #[ptr p] (.int .i64 l.length) := Ke.drew (fun _ k => heldM (L.quiet k).r)
theorem lm_done {l : List Int} {dead : Bool} (L : Lm A w0 own W p most l dead) : Ke W 13 #[ptr p] (errV A (doneC l dead)) := Ke.drew (fun _ k => (doneR (L.quiet k).r (L.quiet k).g.sents).mono (by rintro e w' ⟨ev, rfl, C, m, rfl⟩; exact ⟨by rw [C.out.val], m, rfl⟩))
theorem lm_code {l : List Int} {dead : Bool} {k : Int} (L : Lm A w0 own W p most l dead) (C : Coded A ev k) : Ke W 12 #[ev] (.int .i64 k) := Ke.still (fun _ kk => code_of (L.quiet kk).g.sents C)
theorem doneC_coded (A : Nat → Addr) (l : List Int) (dead : Bool) : Coded A (errV A (doneC l dead)) (doneC l dead) := by
  unfold doneC
  split
  · exact Coded.mk 33 34 (by decide) (by decide) rfl
  · split
    · exact Coded.mk 2 3 (by decide) (by decide) rfl
    · exact Coded.none
theorem there2 {e : TypeId} {c0 c1 : Value} {g : Nat} (h : Cells W g e [c0, c1]) : W.there g 0 2 := by
  intro j hj
  rw [Nat.zero_add]
  refine ⟨?_, h.frozen j⟩
  rw [h.cell, List.getElem?_eq_getElem (by show j < 2; exact hj)]
  rfl
theorem read27Info (c0 c1 : Value) : (Tryd.prog.info? 31).map (·.size) = some (#[c0, c1] : Array Value).size := by
  have : (Tryd.prog.info? 31).map (·.size) = some 2 := by kernel_rfl
  rw [this]; rfl
theorem sum_take {zs : List PcV} {i : Nat} {z : PcV} (h : zs[i]? = some z) : ((zs.take (i + 1)).map (fun z => z.ns.length)).sum = ((zs.take i).map (fun z => z.ns.length)).sum + z.ns.length := by
  rw [List.take_add_one, h]
  simp
theorem sum_le {zs : List PcV} (i : Nat) : ((zs.take i).map (fun z => z.ns.length)).sum ≤ (zs.map (fun z => z.ns.length)).sum := by
  conv => rhs; rw [← List.take_append_drop i zs, List.map_append, List.sum_append]
  omega
/-- make([]byte, 0, n) -/
theorem mkRun (w : World) (n : Nat) (hn : n ≤ 140737488355328) : ∃ w' c, (Instr.makeSlice 29 (.int .i64 0) (.int .i64 n)).run Tryd.prog w = .ok (.slice (some ⟨w.heap.size, 0, none⟩) 0 c) w' ∧ Aside (Ny w w' (.slice (some ⟨w.heap.size, 0, none⟩) 0 c) []) := by
  obtain ⟨i, hi, hz0, hz1, hz2⟩ := info_parts u8info
  have h := run_make (P := Tryd.prog) w 29 5 i _ Tryd.underlying29 hi hz0 .i64 .i64 0 n (by omega) (by omega) (by rw [hz2]; omega) (by omega)
  refine ⟨_, _, h, ⟨?_, (Keeps.refl _ _).alloc _⟩⟩
  exact World.ownsRow_made w _ _ (Nat.le_refl _) (by unfold maxLen; omega) (by simp [madeCells, hz1])
theorem lit3 (W : World) : Rd (W.alloc (.cells #[.int .u8 91, .int .u8 92, .int .u8 93] 5)) (.slice (some ⟨W.heap.size, 0, none⟩) 3 3) [91, 92, 93] := rd_const27 W [91, 92, 93] (0, 0)
theorem str_run {x : Value} {T : List Int} {S : ByteArray} (h : Rd W x T) (hS : Aside (strOf T = S)) : (convert 29 9 x).run Tryd.prog W = .ok (.string S) W := by
  have sc := rd_conv27 h
  rw [hS.it] at sc
  exact sc
end
section
variable {A : Nat → Addr} {w0 w1 w w' W : World} {own own' own2 : Nat → Nat} {I : Nat → Prop} {p mb nb n lo base most : Nat} {F F2 B ns l : List Int} {v vq fv bx kv kw gv xv ev : Value} {XS ms : List (List Int)}
/-- the piece's own copy, with its three bytes more -/
abbrev XW (own : Nat → Nat) (w : World) (v : Value) (l : List Int) : Prop := OwR own 3 w 5 1 v l.length (bv l)
theorem Ny.xw (h : Ny w W v ns) (own : Nat → Nat) : XW (give own w.heap.size 3) W v ns := ⟨owns_any h.row, fun b hb => ⟨give_new (owns_base h.row b hb), owns_lt h.row b hb⟩⟩
theorem XW.cell (h : XW own W v l) {j : Nat} {y : Int} (hj : l[j]? = some y) : ∃ b c, v = .slice (some ⟨b, 0, none⟩) l.length c ∧ W.cell? ⟨b, j, none⟩ = some (.int .u8 y) := by
  rcases h.1.2 with ⟨_, h0⟩ | ⟨g, cap, cur, rfl, _⟩
  · rw [List.eq_nil_of_length_eq_zero h0] at hj
    simp at hj
  · refine ⟨g, cap, rfl, ?_⟩
    have := h.1.cells rfl j (.int .u8 y) (by unfold bv; rw [List.getElem?_map, hj]; rfl)
    rwa [add_none, Nat.zero_add] at this
theorem XW.shape (h : XW own W v l) : ∃ a c, v = .slice a l.length c ∧ l.length ≤ c := by
  rcases h.1.2 with ⟨rfl, h0⟩ | ⟨g, cap, cur, rfl, _, _, h1, _⟩
  · exact ⟨none, 0, by rw [h0], by omega⟩
  · exact ⟨_, _, rfl, h1⟩
theorem XW.put (h : XW own W v l) {i : Nat} (hi : i < l.length) (y : Int) : ∃ b c u0, v = .slice (some ⟨b, 0, none⟩) l.length c ∧ W.frozen? ⟨b, i, none⟩ = false ∧ W.cell? ⟨b, i, none⟩ = some u0 ∧ XW own (W.setCell ⟨b, i, none⟩ (.int .u8 y)) v (l.set i y) ∧ Sn (fun q => q = 3) own W own (W.setCell ⟨b, i, none⟩ (.int .u8 y)) := by
  obtain ⟨b, c, e1, e2⟩ := h.cell (List.getElem?_eq_getElem hi)
  obtain ⟨ho, hb⟩ := h
  subst e1
  have K : Keeps (fun q => own q = 3) W (W.setCell ⟨b, i, none⟩ (.int .u8 y)) := (Keeps.refl _ _).setCell _ _ (fun _ => (hb b rfl).1)
  have o3 := owns_setCell ho i (by omega) (.int .u8 y)
  refine ⟨b, c, _, rfl, owns_frozen ho i, e2, ⟨?_, fun q hq => ⟨(hb q hq).1, Nat.lt_of_lt_of_le (hb q hq).2 K.size⟩⟩, ⟨fun _ _ => rfl, K⟩⟩
  unfold bv
  rw [List.length_set, List.map_set]
  exact o3
/-- its first bytes: the piece -/
theorem XW.front {b BL wc L3 : Nat} (h : XW own W (.slice (some ⟨b, 0, none⟩) L3 wc) (B ++ [91, 92, 93])) (hB : B.length = BL) : RdO own 3 W (.slice (some ⟨b, 0, none⟩) BL wc) B := by
  have hl : BL + 3 ≤ wc := by obtain ⟨_, c, e, h1⟩ := h.shape; injection e with _ _ e; subst e; rw [List.length_append, hB] at h1; exact h1
  refine ⟨⟨⟨_, wc, by rw [bv_length, hB], by rw [bv_length, hB]; omega, fun j u hj => ⟨_, rfl, fun e => e.elim, ?_⟩⟩, fun l c e => by cases e⟩, fun g hg => ⟨(h.2 g hg).2, (h.2 g hg).1⟩⟩
  have hjl : j < B.length := by have := (List.getElem?_eq_some_iff.1 hj).1; rwa [bv_length] at this
  exact h.1.cells rfl j u (by rw [bv_append, List.getElem?_append_left (by rw [bv_length]; exact hjl)]; exact hj)
theorem run_appendD {P : Program} (w : World) (base : Nat) (t e : TypeId) (i : TypeInfo) (z : Value) (bytes : Nat) (ht : P.underlying t = some (.slice e)) (hi : P.info? e = some i) (hz : i.zero = some z) (hsize : i.size = 1) (hby : i.bytes = bytes)
    (hzs : z.cells.size = 1) (v : Value) (n : Nat) (xs : List Value) (hown : w.ownsRow base e 1 v n xs) (sv : Value) (ys : List Value) (hr : ReadsOff Nowhere w sv ys) (hnil : NilOk sv) (h1 : ∀ u ∈ ys, u.oneCell' = true)
    (hb : (n + ys.length) * bytes ≤ 140737488355328) (h63 : n + ys.length ≤ maxLen) (hbase : base ≤ w.heap.size) :
    ∃ v' w', (∀ ty, (Builtin.append_ #[t, t] ty #[v, sv]).run P w = .ok v' w') ∧ w'.ownsRow base e 1 v' (n + ys.length) (xs ++ ys) ∧ w.grownBy w' v.ownBlock ∧ ∀ b, v'.ownBlock = some b → v.ownBlock = some b ∨ w.heap.size ≤ b := by
  obtain ⟨a, c, rfl, hlc, hc⟩ := hr
  cases a with
  | none =>
    obtain rfl : ys = [] := by
      cases ys with
      | nil => rfl
      | cons u us => obtain ⟨x, hx, _⟩ := hc 0 u rfl; cases hx
    obtain rfl := hnil _ _ rfl
    refine ⟨v, w, fun ty => ?_, by simpa using hown, ⟨rfl, rfl, rfl, Nat.le_refl _, fun _ _ _ => rfl⟩, fun b hb => .inl hb⟩
    exact run_append_owned_none (P := P) (w := w) base t ty e i 1 ht hi v n xs hown
  | some ad =>
    have hc' : ∀ j u, ys[j]? = some u → w.cell? (ad.add j) = some u := fun j u hj => by
      obtain ⟨x, hx, _, hce⟩ := hc j u hj
      cases hx
      exact hce
    obtain ⟨v', w', hrun, ho, hg, _⟩ := run_append_own (P := P) w base t 0 e i z 1 bytes ht hi hz hsize hby hzs (by decide) v n xs hown ad ys.length c ys (by omega) hc' h1 h63 hb hbase
    exact ⟨v', w', fun ty => hrun, ho, hg, append_block w base t 0 e i z 1 bytes ht hi hz hsize hby hzs (by decide) v n xs hown ad ys.length c ys (by omega) hc' h1 hb h63 v' w' hrun⟩
theorem Each.one {d : Nat} {vs : List Value} {rs : List (List Int)} (h : Each own d w vs rs) : ∀ v ∈ vs, v.oneCell' = true := by
  induction vs generalizing rs with
  | nil => intro v hv; cases hv
  | cons v vs ih => cases rs with
    | nil => exact h.elim
    | cons r rs =>
      intro u hu
      rcases List.mem_cons.1 hu with rfl | hu
      · obtain ⟨p, c, e⟩ := h.1.1.shape; rw [e]; rfl
      · exact ih h.2 u hu
/-- kept = append(kept, got...) -/
theorem appM {X G : Nat} (h : RowM own 20 1000 W kv XS) (g : RowM own 4 (1000 + XS.length) W gv ms) (hX : XS.length = X) (hG : ms.length = G) (hb : X + G ≤ 4398046511103) : ∃ (a : Option Addr) (c : Nat) (w' : World), (∀ ty, (Builtin.append_ #[22, 22] ty #[kv, gv]).run Tryd.prog W = .ok (.slice a (X + G) c) w') ∧ Aside (RowM (give own W.heap.size 20) 20 1000 w' (.slice a (X + G) c) (XS ++ ms) ∧ Sn (fun k => k = 20) own W (give own W.heap.size 20) w') := by
  obtain ⟨vs, h1, h2, h3, h4⟩ := h
  obtain ⟨us, g1, g2, g3, g4⟩ := g
  obtain ⟨i, hi, hz0, hz1, hz2⟩ := info_parts linfo
  have l1 := h3.len
  have l2 := g3.len
  obtain ⟨v', w', run, o', k', b'⟩ := run_appendR (P := Tryd.prog) W 0 22 29 i _ 1 24 Tryd.underlying22 hi hz0 hz1 hz2 rfl (by decide) kv vs.length vs h1 gv us.length us (owns_readsK g1) g4 (by omega) (by unfold maxLen; omega) (Nat.zero_le _)
  obtain ⟨a, c, rfl⟩ := owns_val o'
  have s1 : Sn (fun k => k = 20) own W (give own W.heap.size 20) w' := ⟨fun _ hk => give_old hk, (grown_keeps k').mono (fun b hb _ => h2 b hb)⟩
  have el : vs.length + us.length = X + G := by omega
  rw [el] at run o' b'
  refine ⟨a, c, w', run, ⟨⟨vs ++ us, by rw [List.length_append, el]; exact o', fun b hb => ?_, (h3.append g3).sx s1.sx (fun k hk e => by omega), fun u hu => ?_⟩, s1⟩⟩
  · rcases b' b hb with e | e
    · exact (give_old (owns_lt h1 b e)).trans (h2 b e)
    · exact give_new e
  · rcases List.mem_append.1 hu with hu | hu
    · exact h4 u hu
    · exact g4 u hu
/-- want = append(want, some...) -/
theorem appW {X G : Nat} (h : RowL own 21 7 W kw XS) (g : RdL own 7 W gv ms) (hX : XS.length = X) (hG : ms.length = G) (hb : X + G ≤ 4398046511103) : ∃ (a : Option Addr) (c : Nat) (w' : World), (∀ ty, (Builtin.append_ #[22, 22] ty #[kw, gv]).run Tryd.prog W = .ok (.slice a (X + G) c) w') ∧ Aside (RowL (give own W.heap.size 21) 21 7 w' (.slice a (X + G) c) (XS ++ ms) ∧ Sn (fun k => k = 21) own W (give own W.heap.size 21) w') := by
  obtain ⟨vs, h1, h2, h3, h4⟩ := h
  obtain ⟨us, g1, g2, g3, g4⟩ := g
  obtain ⟨i, hi, hz0, hz1, hz2⟩ := info_parts linfo
  have l1 := h3.len
  have l2 := g4.len
  obtain ⟨v', w', run, o', k', b'⟩ := run_appendD (P := Tryd.prog) W 0 22 29 i _ 24 Tryd.underlying22 hi hz0 hz1 hz2 rfl kw vs.length vs h1 gv us g1 g2 g4.one (by omega) (by unfold maxLen; omega) (Nat.zero_le _)
  obtain ⟨a, c, rfl⟩ := owns_val o'
  have s1 : Sn (fun k => k = 21) own W (give own W.heap.size 21) w' := ⟨fun _ hk => give_old hk, (grown_keeps k').mono (fun b hb _ => h2 b hb)⟩
  have el : vs.length + us.length = X + G := by omega
  rw [el] at run o' b'
  refine ⟨a, c, w', run, ⟨⟨vs ++ us, by rw [List.length_append, el]; exact o', fun b hb => ?_, (h3.append g4).sn s1 (by decide), fun u hu => ?_⟩, s1⟩⟩
  · rcases b' b hb with e | e
    · exact (give_old (owns_lt h1 b e)).trans (h2 b e)
    · exact give_new e
  · rcases List.mem_append.1 hu with hu | hu
    · exact h4 u hu
    · exact g4.one u hu
/-- the reader, the document's beside it, what is kept and what is wanted -/
structure Mv (A : Nat → Addr) (w1 : World) (own : Nat → Nat) (W : World) (p most : Nat) (F : List Int) (mb : Nat) (bx fv : Value) (F2 : List Int) (kv kw : Value) (XS : List (List Int)) : Prop where
  L : Lm A w1 own W p most (parseM most F).rest (parseM most F).dead
  box : CellsO own 6 W mb 31 [.int .i64 most, bx]
  fed : RdP own 7 W fv F2
  k : RowM own 20 1000 W kv XS
  w : RowL own 21 7 W kw XS
theorem Mv.sx (h : Mv A w1 own W p most F mb bx fv F2 kv kw XS) (s : Sx I own W own' w') (h0 : ¬ I 0) (h1 : ¬ I 1) (h2 : ¬ I 2) (h6 : ¬ I 6) (h7 : ¬ I 7) (h20 : ¬ I 20) (h21 : ¬ I 21) (hk : ∀ k, 1000 ≤ k → ¬ I k) : Mv A w1 own' w' p most F mb bx fv F2 kv kw XS :=
  ⟨⟨h.L.g.sx s h0, h.L.r.sx s h1 h2⟩, h.box.sx s h6, h.fed.sx s h7, h.k.sx s h20 hk, h.w.sx s h21 h7⟩
theorem Mv.sn (h : Mv A w1 own W p most F mb bx fv F2 kv kw XS) (s : Sn I own W own' w') (hi : ∀ k, I k → k = 3 ∨ k = 4 ∨ k = 8) : Mv A w1 own' w' p most F mb bx fv F2 kv kw XS :=
  h.sx s.sx (fun e => by have := hi _ e; omega) (fun e => by have := hi _ e; omega) (fun e => by have := hi _ e; omega) (fun e => by have := hi _ e; omega) (fun e => by have := hi _ e; omega) (fun e => by have := hi _ e; omega) (fun e => by have := hi _ e; omega) (fun k hk e => by have := hi _ e; omega)
theorem Mv.quiet (h : Mv A w1 own W p most F mb bx fv F2 kv kw XS) (k : Keeps Nowhere W w') : Mv A w1 own w' p most F mb bx fv F2 kv kw XS := h.sn (I := fun _ => False) (Sn.same k) (fun _ x => x.elim)
theorem whoK (n : Nat) : Who 1 3 4 (1000 + n) := ⟨by decide, by decide, by decide, by decide, by decide, by decide, by decide, by omega, by omega⟩
/-- Feed of the piece's copy -/
theorem Mv.feed {b BL wc L3 : Nat} (h : Mv A w1 own W p most F mb bx fv F2 kv kw XS) (x : XW own W (.slice (some ⟨b, 0, none⟩) L3 wc) (B ++ [91, 92, 93])) (hB : B.length = BL) (hb : AreBytes B) (hL : B.length ≤ 2199023255552) :
    Calls Tryd.prog 8 #[ptr p, .slice (some ⟨b, 0, none⟩) BL wc] W fun e w' => ∃ fq fc ev own', e = .returned (.tuple #[.slice fq (gotM most F B).length fc, ev]) ∧ Aside (Mv A w1 own' w' p most (fedM most F B) mb bx fv F2 kv kw XS ∧ RowM own' 4 (1000 + XS.length) w' (.slice fq (gotM most F B).length fc) (gotM most F B) ∧ XW own' w' (.slice (some ⟨b, 0, none⟩) L3 wc) (B ++ [91, 92, 93]) ∧ Sx (WhoI 1 4) own W own' w') := by
  refine (feedM h.L.g h.L.r (x.front hB) hb (whoK XS.length) hL).mono ?_
  rintro e w' ⟨fq, fl, fc, ev, own', rfl, C, X⟩
  obtain ⟨f1, f2, f3⟩ := fed_out most F B
  have S := X.it.2.2.2
  have n : ∀ k, k ≠ 1 → k ≠ 2 → k ≠ 4 → ¬ WhoI 1 4 k := fun k a b c e => by rcases e with e | e | e <;> omega
  have R := X.it.2.1
  rw [← f3] at R
  obtain ⟨a, c, e⟩ := R.shape
  injection e with e1 e2 e3
  subst e1 e2 e3
  refine ⟨_, _, ev, _, rfl, ⟨⟨⟨X.it.1, by rw [f1, f2]; exact X.it.2.2.1⟩, h.box.sx S (n _ (by decide) (by decide) (by decide)), h.fed.sx S (n _ (by decide) (by decide) (by decide)), h.k.sx S (n _ (by decide) (by decide) (by decide)) (fun k hk => n _ (by omega) (by omega) (by omega)), h.w.sx S (n _ (by decide) (by decide) (by decide)) (n _ (by decide) (by decide) (by decide))⟩, R, ?_, S⟩⟩
  exact ⟨owns_later x.1 S.keeps (fun q hq e => n 3 (by decide) (by decide) (by decide) (by rw [(x.2 q hq).1] at e; exact e)), fun q hq => ⟨(S.agree q (x.2 q hq).2 (by rw [(x.2 q hq).1]; exact n 3 (by decide) (by decide) (by decide))).trans (x.2 q hq).1, Nat.lt_of_lt_of_le (x.2 q hq).2 S.keeps.size⟩⟩
/-- got[i] = .. -/
theorem OwR.putL {o i n : Nat} {e : TypeId} {cs : List Value} (h : OwR own o W e 1 v n cs) (hi : i < n) (y : Value) : ∃ b c u0, v = .slice (some ⟨b, 0, none⟩) n c ∧ W.frozen? ⟨b, i, none⟩ = false ∧ W.cell? ⟨b, i, none⟩ = some u0 ∧ OwR own o (W.setCell ⟨b, i, none⟩ y) e 1 v n (cs.set i y) ∧ Sn (fun q => q = o) own W own (W.setCell ⟨b, i, none⟩ y) := by
  have hl : cs.length = n * 1 := h.1.1
  obtain ⟨ho, hb⟩ := h
  rcases id ho.2 with ⟨_, h0⟩ | ⟨g, cap, cur, rfl, _⟩
  · omega
  · have hc := ho.cells rfl i _ (List.getElem?_eq_getElem (show i < cs.length by omega))
    rw [add_none, Nat.zero_add] at hc
    have K : Keeps (fun q => own q = o) W (W.setCell ⟨g, i, none⟩ y) := (Keeps.refl _ _).setCell _ _ (fun _ => (hb g rfl).1)
    exact ⟨g, cap, _, rfl, owns_frozen ho i, hc, ⟨owns_setCell ho i (by omega) y, fun q hq => ⟨(hb q hq).1, Nat.lt_of_lt_of_le (hb q hq).2 K.size⟩⟩, ⟨fun _ _ => rfl, K⟩⟩
theorem RowM.owR {d d2 : Nat} (h : RowM own d d2 W gv ms) : ∃ vs, OwR own d W 29 1 gv ms.length vs := by
  obtain ⟨vs, h1, h2, h3, _⟩ := h
  exact ⟨vs, by rw [← h3.len]; exact ⟨h1, fun b hb => ⟨h2 b hb, owns_lt h1 b hb⟩⟩⟩
theorem RdP.next (h : RdP own 7 w vq F) (R : Rd w' v F2) (hn : (∀ g o l c, v = .slice (some ⟨g, o, none⟩) l c → w.heap.size ≤ g) ∨ v = vq) : RdP (give own w.heap.size 7) 7 w' v F2 := ⟨R, fun hne g hg => by
  rcases hn with h5 | h5
  · obtain ⟨g2, o2, c2, e, _⟩ := Rd.at R hne
    subst e
    simp only [Value.ownBlock, Option.some.injEq] at hg
    subst hg
    exact give_new (h5 _ _ _ _ rfl)
  · subst h5
    have hl : F2.length = F.length := by
      obtain ⟨_, _, e1⟩ := R.shape
      obtain ⟨_, _, e2⟩ := h.1.shape
      rw [e1] at e2
      injection e2
    have hF : F ≠ [] := fun e => by rw [e] at hl; exact hne (List.eq_nil_of_length_eq_zero hl)
    have h7 := h.2 hF g hg
    obtain ⟨g2, o2, c2, e, _, hc⟩ := Rd.at h.1 hF
    subst e
    simp only [Value.ownBlock, Option.some.injEq] at hg
    subst hg
    obtain ⟨y, ys, hy⟩ : ∃ y ys, F = y :: ys := by cases F with | nil => exact absurd rfl hF | cons y ys => exact ⟨y, ys, rfl⟩
    have hlt := World.block_lt_of_cell? w _ (hc 0 (.int .u8 y) (by rw [hy]; rfl))
    rw [give_old hlt]
    exact h7⟩
/-- the document has been fed -/
theorem Mv.begin {wv : Value} (h : Mv A w1 own W p most F mb bx bx F kv kw XS) (x : XW own W xv l) (hb : Below W.heap.size W w') (R : Rd w' fv F2) (hn : (∀ g o l c, fv = .slice (some ⟨g, o, none⟩) l c → W.heap.size ≤ g) ∨ fv = bx) (hM : MsgsN W.heap.size w' wv ms) :
    ∃ own9, Mv A w1 own9 (w'.alloc (.cells #[.int .i64 most, fv] 31)) p most F mb bx fv F2 kv kw XS ∧ RdL own9 7 (w'.alloc (.cells #[.int .i64 most, fv] 31)) wv ms ∧ XW own9 (w'.alloc (.cells #[.int .i64 most, fv] 31)) xv l ∧ CellsO own9 8 (w'.alloc (.cells #[.int .i64 most, fv] 31)) w'.heap.size 31 [.int .i64 most, fv] := by
  have k1 : Keeps Nowhere W w' := Keeps.ofBelow hb
  have k2 : Keeps Nowhere w' (w'.alloc (.cells #[.int .i64 most, fv] 31)) := (Keeps.refl _ _).alloc _
  have s1 : Sn (fun _ => False) own W (give own W.heap.size 7) w' := Sn.quiet k1 7
  have s2 : Sn (fun _ => False) (give own W.heap.size 7) w' (give (give own W.heap.size 7) w'.heap.size 8) (w'.alloc (.cells #[.int .i64 most, fv] 31)) := Sn.quiet k2 8
  have m9 := (h.sn s1 (fun _ x => x.elim)).sn s2 (fun _ x => x.elim)
  have f9 := (h.fed.next R hn).sx s2.sx (fun x => x)
  exact ⟨_, ⟨m9.L, m9.box, f9, m9.k, m9.w⟩, (MsgsN.to hM (fun g hg => give_new hg)).sn s2 (fun x => x), (x.sn s1 (fun x => x)).sn s2 (fun x => x), ⟨Cells.new _ _ _, give_new (Nat.le_refl _)⟩⟩
/-- behind the program's Feed -/
structure Rw (A : Nat → Addr) (w1 : World) (own : Nat → Nat) (W : World) (p most : Nat) (F : List Int) (mb : Nat) (fv kv kw : Value) (XS : List (List Int)) (gv : Value) (ms : List (List Int)) (wv xv : Value) (l : List Int) : Prop where
  v : Mv A w1 own W p most F mb fv fv F kv kw XS
  g : RowM own 4 (1000 + XS.length) W gv ms
  d : RdL own 7 W wv ms
  x : XW own W xv l
/-- m = now -/
theorem Mv.write {wv : Value} (h : Mv A w1 own W p most F mb bx fv F kv kw XS) (g : RowM own 4 (1000 + XS.length) W gv ms) (d : RdL own 7 W wv ms) (x : XW own W xv l) : Rw A w1 own (W.setCells mb 0 (#[.int .i64 most, fv] : Array Value).toList) p most F mb fv kv kw XS gv ms wv xv l := by
  have s : Sn (fun k => k = 6) own W own (W.setCells mb 0 (#[.int .i64 most, fv] : Array Value).toList) := ⟨fun _ _ => rfl, ((Keeps.refl _ _).setCell ⟨mb, 0, none⟩ (.int .i64 most) (fun _ => h.box.2)).setCell ⟨mb, 1, none⟩ fv (fun _ => h.box.2)⟩
  have C : Cells (W.setCells mb 0 (#[.int .i64 most, fv] : Array Value).toList) mb 31 [.int .i64 most, fv] := (h.box.1.setCell 0 (.int .i64 most)).setCell 1 fv
  exact ⟨⟨h.L.sn s (by decide) (by decide) (by decide), ⟨C, h.box.2⟩, h.fed.sx s.sx (by decide), h.k.sx s.sx (by decide) (fun k hk e => by omega), h.w.sn s (by decide) (by decide)⟩, g.sx s.sx (by decide) (fun k hk e => by omega), d.sn s (by decide), x.sn s (by decide)⟩
section
variable {wv : Value}
theorem Rw.quiet (h : Rw A w1 own W p most F mb fv kv kw XS gv ms wv xv l) (k : Keeps Nowhere W w') : Rw A w1 own w' p most F mb fv kv kw XS gv ms wv xv l :=
  have s : Sn (fun _ => False) own W own w' := Sn.same k
  ⟨h.v.quiet k, h.g.sx s.sx (fun x => x) (fun _ _ x => x), h.d.sn s (fun x => x), h.x.sn s (fun x => x)⟩
/-- a byte of the piece's copy is written over -/
theorem Rw.put {i : Nat} (h : Rw A w1 own W p most F mb fv kv kw XS gv ms wv xv l) (hi : i < l.length) (y : Int) : ∃ b c u0, xv = .slice (some ⟨b, 0, none⟩) l.length c ∧ W.frozen? ⟨b, i, none⟩ = false ∧ W.cell? ⟨b, i, none⟩ = some u0 ∧ Rw A w1 own (W.setCell ⟨b, i, none⟩ (.int .u8 y)) p most F mb fv kv kw XS gv ms wv xv (l.set i y) := by
  obtain ⟨b, c, u0, e, f, ce, x2, s⟩ := h.x.put hi y
  exact ⟨b, c, u0, e, f, ce, ⟨h.v.sn s (fun k e => .inl e), h.g.sx s.sx (by decide) (fun k hk e => by omega), h.d.sn s (by decide), x2⟩⟩
/-- kept and want grow -/
theorem Rw.grow {X G : Nat} (h : Rw A w1 own W p most F mb fv kv kw XS gv ms wv xv l) (hX : XS.length = X) (hG : ms.length = G) (hb : X + G ≤ 4398046511103) : ∃ (ka : Option Addr) (kc : Nat) (w2 : World) (wa : Option Addr) (wc : Nat) (w3 : World) (own' : Nat → Nat), (∀ ty, (Builtin.append_ #[22, 22] ty #[kv, gv]).run Tryd.prog W = .ok (.slice ka (X + G) kc) w2) ∧ (∀ ty, (Builtin.append_ #[22, 22] ty #[kw, wv]).run Tryd.prog w2 = .ok (.slice wa (X + G) wc) w3) ∧ Aside (Mv A w1 own' w3 p most F mb fv fv F (.slice ka (X + G) kc) (.slice wa (X + G) wc) (XS ++ ms)) ∧ Aside (∃ cs, OwR own' 4 w3 29 1 gv G cs) := by
  obtain ⟨ka, kc, w2, run2, R2⟩ := appM h.v.k h.g hX hG hb
  have s2 := R2.it.2
  obtain ⟨wa, wc, w3, run3, R3⟩ := appW (h.v.w.sn s2 (by decide) (by decide)) (h.d.sn s2 (by decide)) hX hG hb
  have s3 := R3.it.2
  obtain ⟨cs, o⟩ := h.g.owR
  rw [hG] at o
  refine ⟨ka, kc, w2, wa, wc, w3, _, run2, run3, ⟨⟨(h.v.L.sn s2 (by decide) (by decide) (by decide)).sn s3 (by decide) (by decide) (by decide), (h.v.box.sn s2 (by decide)).sn s3 (by decide), (h.v.fed.sx s2.sx (by decide)).sx s3.sx (by decide), R2.it.1.sx s3.sx (by decide) (fun k hk e => by omega), R3.it.1⟩⟩, ⟨cs, (o.sn s2 (by decide)).sn s3 (by decide)⟩⟩
end
end
end Go.Proofs.YtnocalkloinbbaaDoor
