import Derived.Test.YtjhjhmhhnifgmaaDoorAnx
import Derived.Test.YtjhjhmhhnifgmaaDoorRowsS
import Derived.Laws.MakeOwn
/-
  culvertlaw05.FeedMemory's world: what is kept of all feeds, by owners
-/
namespace Go.Proofs.YtjhjhmhhnifgmaaDoor
open Go.RowKit

section
variable {A : Nat → Addr} {w0 w w' W : World} {own own' own2 : Nat → Nat} {I : Nat → Prop} {p mb o n m lo base : Nat} {most : Int} {F ns : List Int} {dead : Option (List Int)} {v sv fv kv wv lv gv : Value} {fs : List (List Int × List Int)} {XS YS xs ys : List FX} {vs : List Value} {cs : List Value}

theorem fcells_cell {xs : List FX} (h : ∀ x ∈ xs, ∃ a l c, x.2 = Value.slice a l c) : ∀ u ∈ fcells xs, u.oneCell' = true := by
  intro u hu
  obtain ⟨x, hx, hu⟩ := List.mem_flatMap.1 hu
  obtain ⟨a, l, c, e⟩ := h x hx
  rw [e] at hu
  simp only [frmL, List.mem_cons, List.not_mem_nil, or_false] at hu
  rcases hu with rfl | rfl | rfl | rfl | rfl | rfl <;> rfl
theorem sframeInfo : (Tryd.prog.info? 34).map (fun i => (i.zero, i.size, i.bytes)) = some (some (.slice none 0 0), 1, 24) := by kernel_rfl
/-- append of frames onto a row of one's own -/
theorem appF (h : OwR own o W 46 6 v n cs) {zs : List Value} (hr : ReadsK 6 W sv m zs) (h1 : ∀ u ∈ zs, u.oneCell' = true) (hb : n + m ≤ 3298534883328) : ∃ (a : Option Addr) (c : Nat) (w' : World), (∀ ty, (Builtin.append_ #[34, 34] ty #[v, sv]).run Tryd.prog W = .ok (.slice a (n + m) c) w') ∧ Aside (OwR (give own W.heap.size o) o w' 46 6 (.slice a (n + m) c) (n + m) (cs ++ zs) ∧ Sn (fun q => q = o) own W (give own W.heap.size o) w') := by
  obtain ⟨i, hi, hz0, hz1, hz2⟩ := info_parts frameInfo
  obtain ⟨v', w', run, o', g', b'⟩ := run_appendR (P := Tryd.prog) W 0 34 46 i _ 6 40 Tryd.underlying34 hi hz0 hz1 hz2 rfl (by decide) v n cs h.1 sv m zs hr h1 (by omega) (by unfold maxLen; omega) (Nat.zero_le _)
  obtain ⟨a, c, rfl⟩ := owns_val o'
  refine ⟨a, c, w', run, ⟨⟨o', fun b hb => ?_⟩, ⟨fun _ hk => give_old hk, (grown_keeps g').mono (fun b hb _ => (h.2 b hb).1)⟩⟩⟩
  refine ⟨?_, owns_lt o' b hb⟩
  rcases b' b hb with e | e
  · exact (give_old (h.2 b e).2).trans (h.2 b e).1
  · exact give_new e
/-- one list more -/
theorem appL (h : OwR own o W 34 1 lv n cs) {a0 : Option Addr} {l0 c0 : Nat} (hb : n ≤ 1048576) : ∃ (a : Option Addr) (c : Nat) (w' : World), (∀ ty, (Builtin.append_ #[35, 35] ty #[lv, .slice (some ⟨W.heap.size, 0, none⟩) 1 1]).run Tryd.prog (W.alloc (.cells #[.slice a0 l0 c0] 34)) = .ok (.slice a (n + 1) c) w') ∧ Aside (OwR (give own W.heap.size o) o w' 34 1 (.slice a (n + 1) c) (n + 1) (cs ++ [.slice a0 l0 c0]) ∧ Sn (fun q => q = o) own W (give own W.heap.size o) w') := by
  obtain ⟨i, hi, hz0, hz1, hz2⟩ := info_parts sframeInfo
  have K : Keeps Nowhere W (W.alloc (.cells #[.slice a0 l0 c0] 34)) := (Keeps.refl _ _).alloc _
  obtain ⟨v', w', run, o', g', b'⟩ := run_appendR (P := Tryd.prog) (W.alloc (.cells #[.slice a0 l0 c0] 34)) 0 35 34 i _ 1 24 Tryd.underlying35 hi hz0 hz1 hz2 rfl (by decide) lv n cs (owns_later h.1 K (fun _ _ x => x)) (.slice (some ⟨W.heap.size, 0, none⟩) 1 1) 1 [.slice a0 l0 c0] (readsK_new W 34 [.slice a0 l0 c0]) (by simp [Value.oneCell']) (by omega) (by unfold maxLen; omega) (Nat.zero_le _)
  obtain ⟨a, c, rfl⟩ := owns_val o'
  refine ⟨a, c, w', run, ⟨⟨o', fun b hb => ?_⟩, ⟨fun _ hk => give_old hk, K.any.next (grown_keeps g') (fun b hb _ => (h.2 b hb).1)⟩⟩⟩
  refine ⟨?_, owns_lt o' b hb⟩
  rcases b' b hb with e | e
  · exact (give_old (h.2 b e).2).trans (h.2 b e).1
  · exact give_new (Nat.le_trans K.size e)

/-- all that was kept: the frames (20) and their payloads (2), what they should be (21, 5), the lists (22) and their rows (2) -/
structure Ex (own : Nat → Nat) (W : World) (kv : Value) (XS : List FX) (wv : Value) (YS : List FX) (lv : Value) (vs : List Value) : Prop where
  k : OwR own 20 W 46 6 kv XS.length (fcells XS)
  x : ∀ x ∈ XS, DataO own 2 W x.2 x.1.2
  ap : Apart6 XS
  w : OwR own 21 W 46 6 wv YS.length (fcells YS)
  y : ∀ y ∈ YS, RdX own W y.2 y.1.2
  e : XS.map (·.1) = YS.map (·.1)
  l : OwR own 22 W 34 1 lv vs.length vs
  ls : ∀ v ∈ vs, ∃ n cs, W.ownsRow 0 46 6 v n cs ∧ ∀ b, v.ownBlock = some b → own b = 2
  la : ∀ (k k' : Nat) (v v' : Value) (b : Nat), vs[k]? = some v → vs[k']? = some v' → v.ownBlock = some b → v'.ownBlock = some b → k = k'
theorem DataO.sn2 {v : Value} (h : DataO own 2 W v ns) (s : Sn I own W own' w') (h2 : ¬ I 2) : DataO own' 2 w' v ns := ⟨owns_later h.1 s.keeps (fun b hb e => h2 (h.2 b hb ▸ e)), fun k hk => (s.agree k (owns_lt h.1 k hk)).trans (h.2 k hk)⟩
theorem Ex.sn (h : Ex own W kv XS wv YS lv vs) (s : Sn I own W own' w') (h2 : ¬ I 2) (h5 : ¬ I 5) (h20 : ¬ I 20) (h21 : ¬ I 21) (h22 : ¬ I 22) : Ex own' w' kv XS wv YS lv vs :=
  ⟨h.k.sn s h20, fun x hx => (h.x x hx).sn2 s h2, h.ap, h.w.sn s h21, fun y hy => (h.y y hy).sn s h5, h.e, h.l.sn s h22, fun v hv => by
    obtain ⟨n, cs, h1, h3⟩ := h.ls v hv
    exact ⟨n, cs, owns_later h1 s.keeps (fun b hb e => h2 (h3 b hb ▸ e)), fun b hb => (s.agree b (owns_lt h1 b hb)).trans (h3 b hb)⟩, h.la⟩
theorem Ex.quiet (h : Ex own W kv XS wv YS lv vs) (hk : Keeps Nowhere W w') : Ex own w' kv XS wv YS lv vs := h.sn (I := fun _ => False) (Sn.same hk) (fun x => x) (fun x => x) (fun x => x) (fun x => x) (fun x => x)
theorem Ex.step (h : Ex own W kv XS wv YS lv vs) (hk : Keeps Nowhere W w') (r : Nat) : Ex (give own W.heap.size r) w' kv XS wv YS lv vs := h.sn (I := fun _ => False) (Sn.quiet hk r) (fun x => x) (fun x => x) (fun x => x) (fun x => x) (fun x => x)
theorem Ex.nil (own : Nat → Nat) (W : World) : Ex own W (.slice none 0 0) [] (.slice none 0 0) [] (.slice none 0 0) [] := ⟨OwR.zero, fun x hx => (by cases hx), Apart6.nil, OwR.zero, fun x hx => (by cases hx), rfl, OwR.zero, fun x hx => (by cases hx), fun k k' v v' b h => by simp at h⟩
/-- what a Feed gave -/
structure Gt (own : Nat → Nat) (W : World) (gv : Value) (xs : List FX) (lo : Nat) : Prop where
  r : W.ownsRow 0 46 6 gv xs.length (fcells xs)
  o : ∀ b, gv.ownBlock = some b → own b = 2 ∧ lo ≤ b
  d : ∀ x ∈ xs, DataO own 2 W x.2 x.1.2
  ap : Apart6 xs
  lo : ∀ x ∈ xs, ∀ b, x.2.ownBlock = some b → lo ≤ b
theorem Gt.of (h : FramesD own 2 W gv fs lo ∧ ∀ k, gv.ownBlock = some k → lo ≤ k) : ∃ xs, xs.map (·.1) = fs ∧ Gt own W gv xs lo := by
  obtain ⟨⟨xs, h1, h2, h3, h4, h5, h6, _⟩, h7⟩ := h
  exact ⟨xs, h1, h2, fun b hb => ⟨h3 b hb, h7 b hb⟩, h4, h5, fun x hx b hb => (h6 x hx b hb).1⟩
theorem Gt.sn (h : Gt own W gv xs lo) (s : Sn I own W own' w') (h2 : ¬ I 2) : Gt own' w' gv xs lo :=
  ⟨owns_later h.r s.keeps (fun b hb e => h2 ((h.o b hb).1 ▸ e)), fun b hb => ⟨(s.agree b (owns_lt h.r b hb)).trans (h.o b hb).1, (h.o b hb).2⟩, fun x hx => (h.d x hx).sn2 s h2, h.ap, h.lo⟩
theorem DataO.slice {v : Value} (h : DataO own 2 W v ns) : ∃ a l c, v = .slice a l c := by obtain ⟨q, c, e⟩ := owns_val h.1; exact ⟨q, _, c, e⟩
theorem Gt.reads (h : Gt own W gv xs lo) : FramesR W gv (xs.map (·.1)) := ⟨xs, rfl, owns_readsK h.r, fun x hx => (h.d x hx).rd⟩
/-- kept = append(kept, got...) -/
theorem Ex.keep (h : Ex own W kv XS wv YS lv vs) (g : Gt own W gv xs lo) (hb : XS.length + xs.length ≤ 3298534883328) : ∃ (a : Option Addr) (c : Nat) (w' : World) (own' : Nat → Nat), (∀ ty, (Builtin.append_ #[34, 34] ty #[kv, gv]).run Tryd.prog W = .ok (.slice a (XS.length + xs.length) c) w') ∧ Aside (OwR own' 20 w' 46 6 (.slice a (XS.length + xs.length) c) (XS.length + xs.length) (fcells XS ++ fcells xs) ∧ Sn (fun q => q = 20) own W own' w') := by
  obtain ⟨a, c, w', run, X⟩ := appF h.k (owns_readsK g.r) (fcells_cell (fun x hx => (g.d x hx).slice)) hb
  exact ⟨a, c, w', _, run, X⟩
/-- want = append(want, frames...) -/
theorem Ex.want (h : OwR own 21 W 46 6 wv n cs) (hr : ReadsK 6 W sv ys.length (fcells ys)) (hs : ∀ x ∈ ys, Rd W x.2 x.1.2) (hb : n + ys.length ≤ 3298534883328) : ∃ (a : Option Addr) (c : Nat) (w' : World) (own' : Nat → Nat), (∀ ty, (Builtin.append_ #[34, 34] ty #[wv, sv]).run Tryd.prog W = .ok (.slice a (n + ys.length) c) w') ∧ Aside (OwR own' 21 w' 46 6 (.slice a (n + ys.length) c) (n + ys.length) (cs ++ fcells ys) ∧ Sn (fun q => q = 21) own W own' w') := by
  obtain ⟨a, c, w', run, X⟩ := appF h hr (fcells_cell (fun x hx => by obtain ⟨q, c, e⟩ := (hs x hx).shape; exact ⟨_, _, _, e⟩)) hb
  exact ⟨a, c, w', _, run, X⟩
theorem apart_push {vs : List Value} {g : Value} {lo : Nat} (h : ∀ (k k' : Nat) (v v' : Value) (b : Nat), vs[k]? = some v → vs[k']? = some v' → v.ownBlock = some b → v'.ownBlock = some b → k = k') (hv : ∀ v ∈ vs, ∀ b, v.ownBlock = some b → b < lo) (hg : ∀ b, g.ownBlock = some b → lo ≤ b) : ∀ (k k' : Nat) (v v' : Value) (b : Nat), (vs ++ [g])[k]? = some v → (vs ++ [g])[k']? = some v' → v.ownBlock = some b → v'.ownBlock = some b → k = k' := by
  intro k k' v v' b e e' f f'
  have h1 : ∀ (j : Nat) (u : Value), [g][j]? = some u → j = 0 ∧ u = g := fun j u e => by
    cases j with
    | zero => simp at e; exact ⟨rfl, e.symm⟩
    | succ j => simp at e
  rcases Nat.lt_or_ge k vs.length with ht | ht
  · rw [List.getElem?_append_left ht] at e
    have g1 := hv v (List.mem_of_getElem? e) b f
    rcases Nat.lt_or_ge k' vs.length with ht' | ht'
    · rw [List.getElem?_append_left ht'] at e'
      exact h k k' v v' b e e' f f'
    · rw [List.getElem?_append_right ht'] at e'
      obtain ⟨_, rfl⟩ := h1 _ _ e'
      have := hg b f'
      omega
  · rw [List.getElem?_append_right ht] at e
    obtain ⟨g0, rfl⟩ := h1 _ _ e
    rcases Nat.lt_or_ge k' vs.length with ht' | ht'
    · rw [List.getElem?_append_left ht'] at e'
      have g1 := hv v' (List.mem_of_getElem? e') b f'
      have := hg b f
      omega
    · rw [List.getElem?_append_right ht'] at e'
      obtain ⟨g1, _⟩ := h1 _ _ e'
      omega
theorem Ex.reads (h : Ex own W kv XS wv YS lv vs) : FramesR W kv (XS.map (·.1)) ∧ FramesR W wv (XS.map (·.1)) := ⟨⟨XS, rfl, owns_readsK h.k.1, fun x hx => (h.x x hx).rd⟩, ⟨YS, h.e.symm, owns_readsK h.w.1, fun y hy => (h.y y hy).1⟩⟩
theorem Ex.low (h : Ex own W kv XS wv YS lv vs) : (∀ x ∈ XS, ∀ b, x.2.ownBlock = some b → b < W.heap.size) ∧ ∀ v ∈ vs, ∀ b, v.ownBlock = some b → b < W.heap.size :=
  ⟨fun x hx b hb => owns_lt (h.x x hx).1 b hb, fun v hv b hb => by obtain ⟨_, _, h1, _⟩ := h.ls v hv; exact owns_lt h1 b hb⟩
end
end Go.Proofs.YtjhjhmhhnifgmaaDoor

/-
  culvertlaw05.FeedMemory behind its feeds: each payload and each list has an owner of its own
-/
namespace Go.Proofs.YtjhjhmhhnifgmaaDoor
open Go.RowKit

section
variable {A : Nat → Addr} {w0 w w' W : World} {own own' : Nat → Nat} {I : Nat → Prop} {p mb o t k i b n m : Nat} {most : Int} {F ns l : List Int} {dead : Option (List Int)} {v v' u fv kv wv lv gv : Value} {XS YS : List FX} {vs ys ps cs : List Value} {x : FX} {hs : List Int} {f : Nat → List Int} {nn mm ln : Nat → Nat}

/-- how long a slice is -/
def lenV : Value → Nat
  | .slice _ n _ => n
  | _ => 0
def idxX (XS : List FX) (b : Nat) : Nat := XS.findIdx (fun x => x.2.ownBlock == some b)
def idxV (vs : List Value) (b : Nat) : Nat := vs.findIdx (fun v => v.ownBlock == some b)
/-- payload t is owned by 100 + 2 t, list k by 101 + 2 k -/
def relF (own : Nat → Nat) (XS : List FX) (vs : List Value) : Nat → Nat := fun b => if idxX XS b < XS.length then 100 + 2 * idxX XS b else if idxV vs b < vs.length then 101 + 2 * idxV vs b else own b
theorem idxX_lt (h : idxX XS b < XS.length) : ∃ x, XS[idxX XS b]? = some x ∧ x.2.ownBlock = some b := by
  have e := List.findIdx_getElem (p := fun x : FX => x.2.ownBlock == some b) (xs := XS) (w := h)
  exact ⟨XS[idxX XS b], List.getElem?_eq_getElem h, eq_of_beq e⟩
theorem idxV_lt (h : idxV vs b < vs.length) : ∃ v, vs[idxV vs b]? = some v ∧ v.ownBlock = some b := by
  have e := List.findIdx_getElem (p := fun v : Value => v.ownBlock == some b) (xs := vs) (w := h)
  exact ⟨vs[idxV vs b], List.getElem?_eq_getElem h, eq_of_beq e⟩
theorem relF_x (h : Ex own W kv XS wv YS lv vs) (hx : XS[t]? = some x) (hb : x.2.ownBlock = some b) : relF own XS vs b = 100 + 2 * t := by
  have hlt : idxX XS b < XS.length := List.findIdx_lt_length.2 ⟨x, List.mem_of_getElem? hx, by simp [hb]⟩
  obtain ⟨y, hy, hyb⟩ := idxX_lt hlt
  unfold relF
  rw [if_pos hlt, h.ap _ _ _ _ b hy hx hyb hb]
theorem no_x (hn : ∀ x ∈ XS, x.2.ownBlock ≠ some b) : ¬ idxX XS b < XS.length := fun e => by
  obtain ⟨y, hy, hyb⟩ := idxX_lt e
  exact hn y (List.mem_of_getElem? hy) hyb
theorem relF_l (h : Ex own W kv XS wv YS lv vs) (hv : vs[k]? = some v) (hb : v.ownBlock = some b) : relF own XS vs b = 101 + 2 * k := by
  have hlt : idxV vs b < vs.length := List.findIdx_lt_length.2 ⟨v, List.mem_of_getElem? hv, by simp [hb]⟩
  obtain ⟨y, hy, hyb⟩ := idxV_lt hlt
  obtain ⟨n, cs, r1, _⟩ := h.ls v (List.mem_of_getElem? hv)
  unfold relF
  rw [if_neg (no_x (fun x hx e => owns_owns r1 (h.x x hx).1 (by decide) b hb e)), if_pos hlt, h.la _ _ _ _ b hy hv hyb hb]
theorem relF_o (h : Ex own W kv XS wv YS lv vs) (hb : own b ≠ 2) : relF own XS vs b = own b := by
  unfold relF
  rw [if_neg (no_x (fun x hx e => hb ((h.x x hx).2 b e))), if_neg]
  intro e
  obtain ⟨y, hy, hyb⟩ := idxV_lt e
  obtain ⟨_, _, _, r2⟩ := h.ls y (List.mem_of_getElem? hy)
  exact hb (r2 b hyb)
theorem relF_v (h : Ex own W kv XS wv YS lv vs) (hc : Cells W b 68 cs) : relF own XS vs b = own b := by
  unfold relF
  rw [if_neg (no_x (fun x hx e => owns_ne (h.x x hx).1 hc (by decide) e)), if_neg]
  intro e
  obtain ⟨y, hy, hyb⟩ := idxV_lt e
  obtain ⟨_, _, r1, _⟩ := h.ls y (List.mem_of_getElem? hy)
  exact owns_ne r1 hc (by decide) hyb
theorem relF_eq (h : Ex own W kv XS wv YS lv vs) {j : Nat} (hj : j ≠ 2) (hb : own b = j) : relF own XS vs b = j := (relF_o h (by rw [hb]; exact hj)).trans hb
theorem Lw.rel (h : Ex own W kv XS wv YS lv vs) (L : Lw A w0 own 1 2 p most hs dead W) : Lw A w0 (relF own XS vs) 1 2 p most hs dead W := by
  refine ⟨⟨L.G.b, ⟨fun k hk => relF_eq h (by decide) (L.G.g.zero k hk), L.G.g.bel, L.G.g.size⟩⟩, ?_⟩
  have D := L.D
  cases dead with
  | none =>
    obtain ⟨⟨g, ⟨hp, ⟨hv, ⟨c, r⟩, ho⟩, hb, hg'⟩, hg⟩, l⟩ := D
    exact ⟨⟨g, ⟨relF_eq h (by decide) hp, ⟨hv, ⟨c, r⟩, fun k hk => relF_eq h (by decide) (ho k hk)⟩, hb, hg'⟩, hg⟩, l⟩
  | some hd =>
    obtain ⟨vb, a, ⟨g, c⟩, ⟨v1, k, v2, v3, v4, v5⟩⟩ := D
    exact ⟨vb, relF_eq h (by decide) a, ⟨g, c⟩, ⟨(relF_v h v5).trans v1, k, v2, v3, v4, v5⟩⟩
theorem OwR.rel {e : TypeId} {q : Nat} (h : Ex own W kv XS wv YS lv vs) (r : OwR own o W e q u n cs) (ho : o ≠ 2) : OwR (relF own XS vs) o W e q u n cs := ⟨r.1, fun b hb => ⟨relF_eq h ho (r.2 b hb).1, (r.2 b hb).2⟩⟩

/-- payload t: these bytes -/
abbrev XP (own : Nat → Nat) (w : World) (t : Nat) (v : Value) (l : List Int) : Prop := OwR own (100 + 2 * t) w 5 1 v l.length (bv l)
/-- list k: n frames, the first m of them with Length k -/
def LR (own : Nat → Nat) (w : World) (k : Nat) (v : Value) (n m : Nat) : Prop := ∃ cs, OwR own (101 + 2 * k) w 46 6 v n cs ∧ ∀ i, i < m → cs[i * 6 + 4]? = some (.int .u32 k)
/-- the frames that were kept: their payloads -/
def KR (own : Nat → Nat) (w : World) (kv : Value) (ps : List Value) : Prop := ∃ cs, OwR own 20 w 46 6 kv ps.length cs ∧ ∀ t v, ps[t]? = some v → cs[t * 6 + 5]? = some v
def rp (n t : Nat) : List Int := List.replicate n ((t : Int) % 256)
def tp (t : Nat) : Int := ((t : Int) + 1) % 256
/-- the world behind the feeds -/
structure Fe (A : Nat → Addr) (w0 : World) (own : Nat → Nat) (W : World) (p : Nat) (most : Int) (F : List Int) (fv : Value) (mb : Nat) (kv : Value) (ps : List Value) (f : Nat → List Int) (nn : Nat → Nat) (gv : Value) (ys : List Value) (lv : Value) (vs : List Value) (ln mm : Nat → Nat) : Prop where
  q : Fq A w0 own W p most F fv mb fv
  k : KR own W kv ps
  x : ∀ t v, ps[t]? = some v → XP own W t v (f t)
  gr : OwR own 97 W 29 1 gv ys.length ys
  gs : ∀ t v, ys[t]? = some v → XP own W t v (rp (nn t) t ++ [tp t])
  l : OwR own 22 W 34 1 lv vs.length vs
  ls : ∀ k v, vs[k]? = some v → LR own W k v (ln k) (mm k)
theorem LR.sn (h : LR own W k v n m) (s : Sn I own W own' w') (hi : ¬ I (101 + 2 * k)) : LR own' w' k v n m := by obtain ⟨cs, r, h2⟩ := h; exact ⟨cs, r.sn s hi, h2⟩
theorem KR.sn (h : KR own W kv ps) (s : Sn I own W own' w') (hi : ¬ I 20) : KR own' w' kv ps := by obtain ⟨cs, r, h2⟩ := h; exact ⟨cs, r.sn s hi, h2⟩
theorem fcells_at {XS : List FX} {t : Nat} {x : FX} (h : XS[t]? = some x) : (fcells XS)[t * 6 + 5]? = some x.2 := by
  induction XS generalizing t with
  | nil => simp at h
  | cons y ys ih =>
    have e : fcells (y :: ys) = frmL y.1.1 y.2 ++ fcells ys := by simp [fcells]
    rw [e]
    cases t with
    | zero =>
      simp only [List.getElem?_cons_zero, Option.some.injEq] at h
      subst h
      rfl
    | succ t =>
      rw [List.getElem?_append_right (by simp; omega)]
      have : (t + 1) * 6 + 5 - (frmL y.1.1 y.2).length = t * 6 + 5 := by simp; omega
      rw [this]
      exact ih (by simpa using h)
/-- the relabelling: from the feeds to the phases -/
theorem Fe.begin (Q : Fq A w0 own W p most F fv mb fv) (h : Ex own W kv XS wv YS lv vs) : ∃ ln : Nat → Nat, (∀ (k : Nat) (v : Value), vs[k]? = some v → ∃ a c, v = Value.slice a (ln k) c) ∧ Fe A w0 (relF own XS vs) W p most F fv mb kv (XS.map (·.2)) (fun t => ((XS[t]?.map (fun x => x.1.2)).getD [])) (fun t => ((XS[t]?.map (fun x => x.1.2)).getD []).length) (.slice none 0 0) [] lv vs ln (fun _ => 0) := by
  refine ⟨fun k => lenV ((vs[k]?).getD (.slice none 0 0)), fun k v hv => ?_, ⟨⟨Q.L.rel h, ⟨Q.r.1, fun h0 g o l c e => ⟨(Q.r.2 h0 g o l c e).1, relF_eq h (by decide) (Q.r.2 h0 g o l c e).2⟩⟩, ⟨Q.b.1, relF_eq h (by decide) Q.b.2⟩⟩, ⟨fcells XS, by rw [List.length_map]; exact h.k.rel h (by decide), fun t v hv => ?_⟩, fun t v hv => ?_, OwR.zero, fun t v e => by simp at e, h.l.rel h (by decide), fun k v hv => ?_⟩⟩
  · obtain ⟨n, cs, r1, _⟩ := h.ls v (List.mem_of_getElem? hv)
    obtain ⟨a, c, e⟩ := owns_val r1
    subst e
    exact ⟨a, c, by simp [hv, lenV]⟩
  · rw [List.getElem?_map] at hv
    cases hx : XS[t]? with
    | none => simp [hx] at hv
    | some x =>
      simp only [hx, Option.map_some, Option.some.injEq] at hv
      subst hv
      exact fcells_at hx
  · rw [List.getElem?_map] at hv
    cases hx : XS[t]? with
    | none => simp [hx] at hv
    | some x =>
      simp only [hx, Option.map_some, Option.some.injEq] at hv
      subst hv
      have hd := h.x x (List.mem_of_getElem? hx)
      simp only [Option.map_some, Option.getD_some]
      exact ⟨hd.1, fun b hb => ⟨relF_x h hx hb, owns_lt hd.1 b hb⟩⟩
  · obtain ⟨n, cs, r1, r2⟩ := h.ls v (List.mem_of_getElem? hv)
    obtain ⟨a, c, e⟩ := owns_val r1
    subst e
    have e2 : lenV ((vs[k]?).getD (.slice none 0 0)) = n := by simp [hv, lenV]
    rw [e2]
    exact ⟨cs, ⟨r1, fun b hb => ⟨relF_l h hv hb, owns_lt r1 b hb⟩⟩, fun i hi => absurd hi (by omega)⟩
theorem Fe.sn (h : Fe A w0 own W p most F fv mb kv ps f nn gv ys lv vs ln mm) (s : Sn I own W own' w') (hI : ∀ k, k ≤ 90 → ¬ I k) (h97 : ¬ I 97) (he : ∀ t, t < ps.length ∨ t < ys.length → ¬ I (100 + 2 * t)) (ho : ∀ k, ¬ I (101 + 2 * k)) : Fe A w0 own' w' p most F fv mb kv ps f nn gv ys lv vs ln mm :=
  ⟨h.q.sn s (hI _ (by decide)) (hI _ (by decide)) (hI _ (by decide)) (hI _ (by decide)) (hI _ (by decide)), h.k.sn s (hI _ (by decide)), fun t v e => (h.x t v e).sn s (he t (.inl (List.getElem?_eq_some_iff.1 e).1)), h.gr.sn s h97, fun t v e => (h.gs t v e).sn s (he t (.inr (List.getElem?_eq_some_iff.1 e).1)), h.l.sn s (hI _ (by decide)), fun k v e => (h.ls k v e).sn s (ho k)⟩
theorem Fe.quiet (h : Fe A w0 own W p most F fv mb kv ps f nn gv ys lv vs ln mm) (hk : Keeps Nowhere W w') : Fe A w0 own w' p most F fv mb kv ps f nn gv ys lv vs ln mm := h.sn (I := fun _ => False) (Sn.same hk) (fun _ _ x => x) (fun x => x) (fun _ _ x => x) (fun _ x => x)
/-- payload t has changed -/
theorem Fe.at (h : Fe A w0 own W p most F fv mb kv ps f nn gv ys lv vs ln mm) (s : Sn (fun q => q = 98 ∨ q = 100 + 2 * t) own W own' w') (ht : ys.length ≤ t) (hv : ps[t]? = some v) (hX : XP own' w' t v l) : Fe A w0 own' w' p most F fv mb kv ps (fun j => if j = t then l else f j) nn gv ys lv vs ln mm := by
  refine ⟨h.q.sn s (by omega) (by omega) (by omega) (by omega) (by omega), h.k.sn s (by omega), fun j u e => ?_, h.gr.sn s (by omega), fun j u e => ?_, h.l.sn s (by omega), fun k u e => (h.ls k u e).sn s (by omega)⟩
  · by_cases hj : j = t
    · subst hj
      rw [hv] at e
      injection e with e
      subst e
      rw [if_pos rfl]
      exact hX
    · rw [if_neg hj]
      exact (h.x j u e).sn s (by omega)
  · have := (List.getElem?_eq_some_iff.1 e).1
    exact (h.gs j u e).sn s (by omega)
theorem Fe.more (h : Fe A w0 own W p most F fv mb kv ps f nn gv ys lv vs ln mm) {g : Nat → List Int} (hg : ∀ t, t < ps.length → f t = g t) : Fe A w0 own W p most F fv mb kv ps g nn gv ys lv vs ln mm := ⟨h.q, h.k, fun t v e => by rw [← hg t (List.getElem?_eq_some_iff.1 e).1]; exact h.x t v e, h.gr, h.gs, h.l, h.ls⟩
/-- list k has changed -/
theorem Fe.lput (h : Fe A w0 own W p most F fv mb kv ps f nn gv ys lv vs ln mm) (s : Sn (fun q => q = 101 + 2 * k) own W own' w') (hv : vs[k]? = some v) (hL : LR own' w' k v (ln k) m) : Fe A w0 own' w' p most F fv mb kv ps f nn gv ys lv vs ln (fun j => if j = k then m else mm j) := by
  refine ⟨h.q.sn s (by omega) (by omega) (by omega) (by omega) (by omega), h.k.sn s (by omega), fun j u e => (h.x j u e).sn s (by omega), h.gr.sn s (by omega), fun j u e => (h.gs j u e).sn s (by omega), h.l.sn s (by omega), fun j u e => ?_⟩
  by_cases hj : j = k
  · subst hj
    rw [hv] at e
    injection e with e
    subst e
    rw [if_pos rfl]
    exact hL
  · rw [if_neg hj]
    exact (h.ls j u e).sn s (by omega)
theorem Fe.moreL (h : Fe A w0 own W p most F fv mb kv ps f nn gv ys lv vs ln mm) {g : Nat → Nat} (hg : ∀ k, k < vs.length → g k ≤ mm k) : Fe A w0 own W p most F fv mb kv ps f nn gv ys lv vs ln g := ⟨h.q, h.k, h.x, h.gr, h.gs, h.l, fun k v e => by
  obtain ⟨cs, r, h2⟩ := h.ls k v e
  exact ⟨cs, r, fun i hi => h2 i (by have := hg k (List.getElem?_eq_some_iff.1 e).1; omega)⟩⟩
theorem LR.put (h : LR own W k v n i) (hi : i < n) : ∃ b c u0, v = .slice (some ⟨b, 0, none⟩) n c ∧ W.frozen? ⟨b, i * 6 + 4, none⟩ = false ∧ W.cell? ⟨b, i * 6 + 4, none⟩ = some u0 ∧ LR own (W.setCell ⟨b, i * 6 + 4, none⟩ (.int .u32 k)) k v n (i + 1) ∧ Sn (fun q => q = 101 + 2 * k) own W own (W.setCell ⟨b, i * 6 + 4, none⟩ (.int .u32 k)) := by
  obtain ⟨cs, ⟨ho, hb⟩, h2⟩ := h
  have hl : cs.length = n * 6 := ho.1
  rcases id ho.2 with ⟨_, h0⟩ | ⟨g, cap, cur, rfl, _⟩
  · omega
  · have hc := ho.cells rfl (i * 6 + 4) _ (List.getElem?_eq_getElem (show i * 6 + 4 < cs.length by omega))
    rw [add_none, Nat.zero_add] at hc
    have K : Keeps (fun q => own q = 101 + 2 * k) W (W.setCell ⟨g, i * 6 + 4, none⟩ (.int .u32 k)) := (Keeps.refl _ _).setCell _ _ (fun _ => (hb g rfl).1)
    refine ⟨g, cap, _, rfl, owns_frozen ho _, hc, ⟨cs.set (i * 6 + 4) (.int .u32 k), ⟨owns_setCell ho _ (by omega) _, fun q hq => ⟨(hb q hq).1, Nat.lt_of_lt_of_le (hb q hq).2 K.size⟩⟩, fun j hj => ?_⟩, ⟨fun _ _ => rfl, K⟩⟩
    by_cases he : j = i
    · subst he
      rw [List.getElem?_set_self (by omega)]
    · rw [List.getElem?_set_ne (by omega)]
      exact h2 j (by omega)
theorem LR.get (h : LR own W k v n m) (hi : i < m) (hn : i < n) : ∃ b c, v = .slice (some ⟨b, 0, none⟩) n c ∧ W.cell? ⟨b, i * 6 + 4, none⟩ = some (.int .u32 k) := by
  obtain ⟨cs, ⟨ho, hb⟩, h2⟩ := h
  rcases id ho.2 with ⟨_, h0⟩ | ⟨g, cap, cur, rfl, _⟩
  · omega
  · have hc := ho.cells rfl (i * 6 + 4) _ (h2 i hi)
    rw [add_none, Nat.zero_add] at hc
    exact ⟨g, cap, rfl, hc⟩
theorem KR.cell (h : KR own W kv ps) (hv : ps[t]? = some v) : ∃ b c, kv = .slice (some ⟨b, 0, none⟩) ps.length c ∧ ps.length ≤ c ∧ W.cell? ⟨b, t * 6 + 5, none⟩ = some v := by
  obtain ⟨cs, ⟨ho, _⟩, h2⟩ := h
  have ht := (List.getElem?_eq_some_iff.1 hv).1
  rcases id ho.2 with ⟨_, h0⟩ | ⟨g, cap, cur, rfl, _, _, h1, _⟩
  · omega
  · have hc := ho.cells rfl (t * 6 + 5) _ (h2 t v hv)
    rw [add_none, Nat.zero_add] at hc
    exact ⟨g, cap, rfl, h1, hc⟩
theorem XP.shape (h : XP own W t v l) : ∃ a c, v = .slice a l.length c ∧ l.length ≤ c := by
  rcases h.1.2 with ⟨rfl, h0⟩ | ⟨g, cap, cur, rfl, _, _, h1, _⟩
  · exact ⟨none, 0, by rw [h0], by omega⟩
  · exact ⟨_, _, rfl, h1⟩
theorem XP.cell (h : XP own W t v l) {j : Nat} {y : Int} (hj : l[j]? = some y) : ∃ b c, v = .slice (some ⟨b, 0, none⟩) l.length c ∧ W.cell? ⟨b, j, none⟩ = some (.int .u8 y) := by
  rcases h.1.2 with ⟨_, h0⟩ | ⟨g, cap, cur, rfl, _⟩
  · rw [List.eq_nil_of_length_eq_zero h0] at hj
    simp at hj
  · refine ⟨g, cap, rfl, ?_⟩
    have := h.1.cells rfl j (.int .u8 y) (by unfold bv; rw [List.getElem?_map, hj]; rfl)
    rwa [add_none, Nat.zero_add] at this
theorem XP.put (h : XP own W t v l) {i : Nat} (hi : i < l.length) (y : Int) : ∃ b c u0, v = .slice (some ⟨b, 0, none⟩) l.length c ∧ W.frozen? ⟨b, i, none⟩ = false ∧ W.cell? ⟨b, i, none⟩ = some u0 ∧ XP own (W.setCell ⟨b, i, none⟩ (.int .u8 y)) t v (l.set i y) ∧ Sn (fun q => q = 98 ∨ q = 100 + 2 * t) own W own (W.setCell ⟨b, i, none⟩ (.int .u8 y)) := by
  obtain ⟨b, c, e1, e2⟩ := h.cell (List.getElem?_eq_getElem hi)
  obtain ⟨ho, hb⟩ := h
  subst e1
  have K : Keeps (fun q => own q = 98 ∨ own q = 100 + 2 * t) W (W.setCell ⟨b, i, none⟩ (.int .u8 y)) := (Keeps.refl _ _).setCell _ _ (fun _ => .inr (hb b rfl).1)
  have o3 := owns_setCell ho i (by omega) (.int .u8 y)
  refine ⟨b, c, _, rfl, owns_frozen ho i, e2, ⟨?_, fun q hq => ⟨(hb q hq).1, Nat.lt_of_lt_of_le (hb q hq).2 K.size⟩⟩, ⟨fun _ _ => rfl, K⟩⟩
  unfold bv
  rw [List.length_set, List.map_set]
  exact o3
def partP (y : Int) (i : Nat) (L : List Int) : List Int := List.replicate i y ++ L.drop i
theorem partP_zero (y : Int) (L : List Int) : partP y 0 L = L := by simp [partP]
theorem partP_len {y : Int} {i : Nat} {L : List Int} (h : i ≤ L.length) : (partP y i L).length = L.length := by simp [partP]; omega
theorem partP_all {y : Int} {L : List Int} : partP y L.length L = List.replicate L.length y := by simp [partP]
theorem partP_step {y : Int} {i : Nat} {L : List Int} (h : i < L.length) : (partP y i L).set i y = partP y (i + 1) L := by
  have h1 : (List.replicate i y).length = i := by simp
  unfold partP
  rw [List.set_append_right _ _ (by omega), h1, Nat.sub_self, List.drop_eq_getElem_cons h, List.set_cons_zero]
  rw [List.replicate_succ', List.append_assoc]
  rfl
theorem rp_at {n i : Nat} (h : i < n) : (rp n t)[i]? = some ((t : Int) % 256) := by simp [rp, h]
theorem rp_len (n t : Nat) : (rp n t).length = n := by simp [rp]
/-- the payloads ahead of i are written over, of the i-th the first j bytes -/
def fP (f : Nat → List Int) (i j q : Nat) : List Int := if q < i then rp (f q).length q else if q = i then partP ((i : Int) % 256) j (f q) else f q
theorem fP_start (f : Nat → List Int) (q : Nat) : fP f 0 0 q = f q := by
  unfold fP
  rw [if_neg (by omega)]
  split
  · rename_i h; subst h; exact partP_zero _ _
  · rfl
theorem fP_at (f : Nat → List Int) (i j : Nat) : fP f i j i = partP ((i : Int) % 256) j (f i) := by unfold fP; rw [if_neg (by omega), if_pos rfl]
theorem fP_len (f : Nat → List Int) {i j q : Nat} (h : j ≤ (f i).length) : (fP f i j q).length = (f q).length := by
  unfold fP
  split
  · exact rp_len _ _
  split
  · rename_i h; subst h; exact partP_len (by assumption)
  · rfl
theorem fP_step (f : Nat → List Int) (i j q : Nat) : (if q = i then partP ((i : Int) % 256) (j + 1) (f i) else fP f i j q) = fP f i (j + 1) q := by
  unfold fP
  by_cases h : q = i
  · subst h; simp
  · simp [h]
theorem fP_all (f : Nat → List Int) (i q : Nat) : fP f i (f i).length q = fP f (i + 1) 0 q := by
  unfold fP
  by_cases h : q < i
  · rw [if_pos h, if_pos (by omega)]
  · rw [if_neg h]
    by_cases h2 : q = i
    · subst h2; rw [if_pos rfl, if_pos (by omega), partP_all]; rfl
    · rw [if_neg h2, if_neg (by omega)]
      by_cases h3 : q = i + 1
      · subst h3; rw [if_pos rfl, partP_zero]
      · rw [if_neg h3]
theorem fP_end (f : Nat → List Int) {i q : Nat} (h : q < i) : fP f i 0 q = rp (f q).length q := by unfold fP; rw [if_pos h]
theorem infoBS : (Tryd.prog.info? 29).map (fun i => (i.zero, i.size, i.bytes)) = some (some (.slice none 0 0), 1, 24) := by kernel_rfl
theorem reads_one {e : TypeId} (W : World) (u : Value) : ReadsK 1 (W.alloc (.cells #[u] e)) (.slice (some ⟨W.heap.size, 0, none⟩) 1 1) 1 [u] :=
  ⟨rfl, _, 1, rfl, Nat.le_refl _, by decide, fun h => (by cases h), fun j y hj => ⟨_, _, rfl, by
    cases j with
    | zero => simp only [List.getElem?_cons_zero, Option.some.injEq] at hj; subst hj; exact (Cells.new W e [u]).cell 0
    | succ j => simp at hj⟩⟩
theorem Fe.gpush (h : Fe A w0 own W p most F fv mb kv ps f nn gv ys lv vs ln mm) (hX : XP own W ys.length v (rp (nn ys.length) ys.length ++ [tp ys.length])) (hv : v.oneCell' = true) (hb : ys.length ≤ 4398046511104) : ∃ (a : Option Addr) (c : Nat) (w' : World) (own' : Nat → Nat), (∀ ty, (Builtin.append_ #[22, 22] ty #[gv, .slice (some ⟨W.heap.size, 0, none⟩) 1 1]).run Tryd.prog (W.alloc (.cells #[v] 29)) = .ok (.slice a (ys.length + 1) c) w') ∧ Aside (Fe A w0 own' w' p most F fv mb kv ps f nn (.slice a (ys.length + 1) c) (ys ++ [v]) lv vs ln mm) := by
  obtain ⟨i, hi, hz0, hz1, hz2⟩ := info_parts infoBS
  have K : Keeps Nowhere W (W.alloc (.cells #[v] 29)) := (Keeps.refl _ _).alloc _
  obtain ⟨u, w', run, o', sp⟩ := run_appendS (P := Tryd.prog) (W.alloc (.cells #[v] 29)) 22 29 i _ 1 24 Tryd.underlying22 hi hz0 hz1 hz2 rfl (by decide) gv ys.length ys (owns_later h.gr.1 K (fun _ _ x => x)) (.slice (some ⟨W.heap.size, 0, none⟩) 1 1) 1 [v] (by decide) (reads_one W v) (by simp [hv]) (by omega) (by unfold maxLen; omega)
  obtain ⟨a, c, rfl⟩ := owns_val o'
  obtain ⟨a1, s⟩ := h.gr.app K o' sp
  refine ⟨a, c, w', _, run, ⟨h.q.sn s (by decide) (by decide) (by decide) (by decide) (by decide), h.k.sn s (by decide), fun j u e => (h.x j u e).sn s (by omega), by rw [List.length_append]; exact a1, fun j u e => ?_, h.l.sn s (by decide), fun k u e => (h.ls k u e).sn s (by omega)⟩⟩
  rcases Nat.lt_trichotomy j ys.length with hj | hj | hj
  · rw [List.getElem?_append_left hj] at e
    exact (h.gs j u e).sn s (by omega)
  · subst hj
    rw [List.getElem?_append_right (Nat.le_refl _)] at e
    simp at e
    subst e
    exact hX.sn s (by omega)
  · rw [List.getElem?_append_right (by omega), List.getElem?_eq_none (by simp; omega)] at e
    cases e
abbrev Gp (own : Nat → Nat) (w : World) (v : Value) (l : List Int) (gv : Value) (j : Nat) : Prop := Grows own w 5 1 v l.length (bv l) 98 gv j (List.replicate j (.int .u8 119))
theorem Gp.run {j : Nat} (G : Gp own W v l gv j) (X : XP own W t v l) (hb : l.length ≤ 4398046511104) (hj : j ≤ 64) : ∃ (a : Option Addr) (c : Nat) (w' : World) (own' : Nat → Nat), (∀ ty, (Builtin.append_ #[29, 29] ty #[gv, .slice (some ⟨W.heap.size, 0, none⟩) 1 1]).run Tryd.prog (W.alloc (.cells #[.int .u8 119] 5)) = .ok (.slice a (l.length + (j + 1)) c) w') ∧ Aside (XP own' w' t v l) ∧ Aside (Gp own' w' v l (.slice a (l.length + (j + 1)) c) (j + 1)) ∧ Aside (Sn (fun q => q = 98 ∨ q = 100 + 2 * t) own W own' w') := by
  obtain ⟨i, hi, hz0, hz1, hz2⟩ := info_parts u8info
  have K : Keeps Nowhere W (W.alloc (.cells #[.int .u8 119] 5)) := (Keeps.refl _ _).alloc _
  obtain ⟨u, w', run, o', sp⟩ := run_appendS (P := Tryd.prog) (W.alloc (.cells #[.int .u8 119] 5)) 29 5 i _ 1 1 Tryd.underlying29 hi hz0 hz1 hz2 rfl (by decide) gv (l.length + j) _ (owns_later G.1 K (fun _ _ x => x)) (.slice (some ⟨W.heap.size, 0, none⟩) 1 1) 1 [.int .u8 119] (by decide) (reads_one W _) (by simp [Value.oneCell']) (by omega) (by unfold maxLen; omega)
  obtain ⟨a, c, rfl⟩ := owns_val o'
  obtain ⟨X2, G2, S2⟩ := Grows.app X (by simp [bv]) G (by omega) K o' sp
  rw [← List.replicate_succ'] at G2
  exact ⟨a, c, w', _, run, ⟨X2⟩, ⟨G2⟩, ⟨S2⟩⟩
theorem XP.appRun (X : XP own W t v l) (y : Int) (hb : l.length ≤ 4398046511104) : ∃ (a : Option Addr) (c : Nat) (w' : World) (own' : Nat → Nat), (∀ ty, (Builtin.append_ #[29, 29] ty #[v, .slice (some ⟨W.heap.size, 0, none⟩) 1 1]).run Tryd.prog (W.alloc (.cells #[.int .u8 y] 5)) = .ok (.slice a (l.length + 1) c) w') ∧ Aside (XP own' w' t v l) ∧ Aside (XP own' w' t (.slice a (l.length + 1) c) (l ++ [y])) ∧ Aside (Sn (fun q => q = 98 ∨ q = 100 + 2 * t) own W own' w') := by
  obtain ⟨i, hi, hz0, hz1, hz2⟩ := info_parts u8info
  have K : Keeps Nowhere W (W.alloc (.cells #[.int .u8 y] 5)) := (Keeps.refl _ _).alloc _
  obtain ⟨u, w', run, o', sp⟩ := run_appendS (P := Tryd.prog) (W.alloc (.cells #[.int .u8 y] 5)) 29 5 i _ 1 1 Tryd.underlying29 hi hz0 hz1 hz2 rfl (by decide) v l.length _ (owns_later X.1 K (fun _ _ x => x)) (.slice (some ⟨W.heap.size, 0, none⟩) 1 1) 1 [.int .u8 y] (by decide) (reads_one W _) (by simp [Value.oneCell']) (by omega) (by unfold maxLen; omega)
  obtain ⟨a, c, rfl⟩ := owns_val o'
  obtain ⟨a1, s1⟩ := X.app K o' sp
  have a2 := X.stays (by simp [bv]) K o' sp
  refine ⟨a, c, w', _, run, ⟨a2⟩, ⟨?_⟩, ⟨s1.mono (fun _ e => .inr e)⟩⟩
  unfold XP bv
  rw [List.length_append, List.map_append]
  exact a1
theorem rowV_cell {e : TypeId} {o : Nat} (h : OwR own o W e 1 lv vs.length vs) (hv : vs[k]? = some v) : ∃ b c, lv = .slice (some ⟨b, 0, none⟩) vs.length c ∧ vs.length ≤ c ∧ W.cell? ⟨b, k, none⟩ = some v := by
  have hk := (List.getElem?_eq_some_iff.1 hv).1
  rcases id h.1.2 with ⟨_, h0⟩ | ⟨g, cap, cur, rfl, _, _, h1, _⟩
  · omega
  · have := h.1.cells rfl k v hv
    rw [add_none, Nat.zero_add] at this
    exact ⟨g, cap, rfl, h1, this⟩
/-- how many frames of each list are written over while list k is at i -/
def mA (ln : Nat → Nat) (k i j : Nat) : Nat := if j < k then ln j else if j = k then i else 0
theorem mA_step (ln : Nat → Nat) (k i j : Nat) : (if j = k then i + 1 else mA ln k i j) = mA ln k (i + 1) j := by
  unfold mA
  by_cases h : j = k
  · subst h; simp
  · simp [h]
theorem mA_all (ln : Nat → Nat) (k j : Nat) : mA ln k (ln k) j = mA ln (k + 1) 0 j := by
  unfold mA
  by_cases h : j < k
  · rw [if_pos h, if_pos (by omega)]
  · rw [if_neg h]
    by_cases h2 : j = k
    · subst h2; rw [if_pos rfl, if_pos (by omega)]
    · rw [if_neg h2, if_neg (by omega)]
      split <;> rfl
theorem mA_at (ln : Nat → Nat) (k i : Nat) : mA ln k i k = i := by unfold mA; rw [if_neg (by omega), if_pos rfl]
theorem Fe.eqL (h : Fe A w0 own W p most F fv mb kv ps f nn gv ys lv vs ln mm) {g : Nat → Nat} (hg : ∀ k, mm k = g k) : Fe A w0 own W p most F fv mb kv ps f nn gv ys lv vs ln g := h.moreL (fun k _ => by rw [hg k]; exact Nat.le_refl _)
theorem Fe.lens (h : Fe A w0 own W p most F fv mb kv ps f nn gv [] lv vs ln mm) (n2 : Nat → Nat) : Fe A w0 own W p most F fv mb kv ps f n2 gv [] lv vs ln mm := ⟨h.q, h.k, h.x, h.gr, fun t v e => by simp at e, h.l, h.ls⟩
section
variable {q : Option Addr} {fl fc : Nat}
theorem fq_held (h : Aside (Fq A w0 own W p most F fv mb fv)) (n : Nat) (hn : heldS (prs most F).rest (prs most F).dead = n) : Calls Tryd.prog 10 #[dPtr p] W fun e w' => e = .returned (.int .i64 n) ∧ Aside (Fq A w0 own w' p most F fv mb fv) := by
  refine (held_l ⟨h.it.L⟩ n hn).mono ?_
  rintro e w' ⟨rfl, _, K⟩
  exact ⟨rfl, ⟨h.it.quiet K.it⟩⟩
theorem fq_wants (h : Aside (Fq A w0 own W p most F fv mb fv)) (n : Nat) (hn : wantsS (prs most F).rest (prs most F).dead = n) : Calls Tryd.prog 12 #[dPtr p] W fun e w' => e = .returned (.int .i64 n) ∧ Aside (Fq A w0 own w' p most F fv mb fv) := by
  refine (wants_l ⟨h.it.L⟩ n hn).mono ?_
  rintro e w' ⟨rfl, _, K⟩
  exact ⟨rfl, ⟨h.it.quiet K.it⟩⟩
theorem fq_rheld (h : Aside (Fq A w0 own W p most F (.slice q fl fc) mb (.slice q fl fc))) (hb : AreBytes F) (hL : F.length ≤ 16777216) (n : Nat) (hn : heldS (prs most F).rest (prs most F).dead = n) : Calls Tryd.prog 11 #[.agg #[.int .i64 most, .slice q fl fc]] W fun e w' => e = .returned (.int .i64 n) ∧ Aside (Fq A w0 own w' p most F (.slice q fl fc) mb (.slice q fl fc)) := by
  refine (refHeld q fl fc h.it.r.1 hb hL).mono ?_
  rintro e w' ⟨rfl, K⟩
  exact ⟨by rw [← hn]; rfl, ⟨h.it.quiet (Keeps.ofBelow K.it)⟩⟩
theorem fq_rwants (h : Aside (Fq A w0 own W p most F (.slice q fl fc) mb (.slice q fl fc))) (hb : AreBytes F) (hL : F.length ≤ 16777216) (hm : most ≠ 0) (n : Nat) (hn : wantsS (prs most F).rest (prs most F).dead = n) : Calls Tryd.prog 13 #[.agg #[.int .i64 most, .slice q fl fc]] W fun e w' => e = .returned (.int .i64 n) ∧ Aside (Fq A w0 own w' p most F (.slice q fl fc) mb (.slice q fl fc)) := by
  refine (refWants q fl fc h.it.r.1 hb hL hm).mono ?_
  rintro e w' ⟨rfl, K⟩
  exact ⟨by rw [← hn], ⟨h.it.quiet (Keeps.ofBelow K.it)⟩⟩
theorem fq_cells (h : Aside (Fq A w0 own W p most F fv mb fv)) : W.cell? ⟨mb, 0, none⟩ = some (.int .i64 most) ∧ W.cell? ⟨mb, 1, none⟩ = some fv := ⟨by rw [h.it.b.1.cell]; rfl, by rw [h.it.b.1.cell]; rfl⟩
end
end
end Go.Proofs.YtjhjhmhhnifgmaaDoor

/-
  culvertlaw05.FeedMemory: a round's world
-/
namespace Go.Proofs.YtjhjhmhhnifgmaaDoor
open Go.RowKit

/-- a row of bytes that is new since w -/
structure Ny (w W : World) (v : Value) (ns : List Int) : Prop where
  row : OwnB w.heap.size W v ns
  k : Keeps Nowhere w W
section
variable {w W W' : World} {v x : Value} {ns : List Int} {own : Nat → Nat}
theorem appRun {ms : List Int} {m : Nat} (h : OwnB w.heap.size W v ns) (hk : Keeps Nowhere w W) (hx : Rd W x ms) (hb : ns.length + ms.length ≤ 140737488355328) (hm : (ns ++ ms).length = m) : ∃ (a : Option Addr) (c : Nat) (w' : World), (∀ ty, (Builtin.append_ #[29, 29] ty #[v, x]).run Tryd.prog W = .ok (.slice a m c) w') ∧ Aside (Ny w w' (.slice a m c) (ns ++ ms)) := by
  obtain ⟨i, hi, hz0, hz1, hz2⟩ := info_parts u8info
  have hown' : W.ownsRow w.heap.size 5 1 v (bv ns).length (bv ns) := by rw [bv_length]; exact h
  obtain ⟨v', w', run, o', g'⟩ := run_appendK (P := Tryd.prog) W w.heap.size 29 5 i _ 1 Tryd.underlying29 hi hz0 hz1 hz2 rfl v (bv ns) hown' x (bv ms) hx.1 hx.2 (bv_one ms) (by rw [bv_length, bv_length]; omega) (by rw [bv_length, bv_length]; unfold maxLen; omega) hk.size
  have o2 : OwnB w.heap.size w' v' (ns ++ ms) := by
    rw [← bv_append, bv_length] at o'
    exact o'
  obtain ⟨a, c, e⟩ := OwnB.shape o2
  rw [hm] at e
  subst e
  exact ⟨a, c, w', run, ⟨o2, hk.next (grown_keeps g') (fun b hb hlt => by have := owns_base h b hb; omega)⟩⟩
/-- make([]byte, 0, n) -/
theorem mkRun (w : World) (n : Nat) (hn : n ≤ 140737488355328) : ∃ w' c, (Instr.makeSlice 29 (.int .i64 0) (.int .i64 n)).run Tryd.prog w = .ok (.slice (some ⟨w.heap.size, 0, none⟩) 0 c) w' ∧ Aside (Ny w w' (.slice (some ⟨w.heap.size, 0, none⟩) 0 c) []) := by
  obtain ⟨i, hi, hz0, hz1, hz2⟩ := info_parts u8info
  have h := run_make (P := Tryd.prog) w 29 5 i _ Tryd.underlying29 hi hz0 .i64 .i64 0 n (by omega) (by omega) (by rw [hz2]; omega) (by omega)
  refine ⟨_, _, h, ⟨?_, (Keeps.refl _ _).alloc _⟩⟩
  exact World.ownsRow_made w _ _ (Nat.le_refl _) (by unfold maxLen; omega) (by simp [madeCells, hz1])
theorem lit3 (W : World) : Rd (W.alloc (.cells #[.int .u8 91, .int .u8 92, .int .u8 93] 5)) (.slice (some ⟨W.heap.size, 0, none⟩) 3 3) [91, 92, 93] := rd_new W [91, 92, 93] 3 rfl
end
section
variable {A : Nat → Addr} {w0 w w' W : World} {own own' own2 : Nat → Nat} {I : Nat → Prop} {p mb nb n lo base : Nat} {most : Int} {F F2 B ns l : List Int} {v fv bx fv2 kv wv kw lv gv xv ev : Value} {fs : List (List Int × List Int)} {XS YS xs ys : List FX} {vs : List Value}
/-- the piece's own copy, with its three bytes more -/
abbrev XW (own : Nat → Nat) (w : World) (v : Value) (l : List Int) : Prop := OwR own 9 w 5 1 v l.length (bv l)
theorem Ny.xw (h : Ny w W v ns) (own : Nat → Nat) : XW (give own w.heap.size 9) W v ns := ⟨owns_any h.row, fun b hb => ⟨give_new (owns_base h.row b hb), owns_lt h.row b hb⟩⟩
theorem XW.cell (h : XW own W v l) {j : Nat} {y : Int} (hj : l[j]? = some y) : ∃ b c, v = .slice (some ⟨b, 0, none⟩) l.length c ∧ W.cell? ⟨b, j, none⟩ = some (.int .u8 y) := by
  rcases h.1.2 with ⟨_, h0⟩ | ⟨g, cap, cur, rfl, _⟩
  · rw [List.eq_nil_of_length_eq_zero h0] at hj
    simp at hj
  · refine ⟨g, cap, rfl, ?_⟩
    have := h.1.cells rfl j (.int .u8 y) (by unfold bv; rw [List.getElem?_map, hj]; rfl)
    rwa [add_none, Nat.zero_add] at this
theorem XW.shape (h : XW own W v l) : ∃ a c, v = .slice a l.length c ∧ l.length ≤ c := by
  rcases h.1.2 with ⟨rfl, h0⟩ | ⟨g, cap, cur, rfl, _, _, h1, _⟩
  · exact ⟨none, 0, by rw [h0], by omega⟩
  · exact ⟨_, _, rfl, h1⟩
theorem XW.put (h : XW own W v l) {i : Nat} (hi : i < l.length) (y : Int) : ∃ b c u0, v = .slice (some ⟨b, 0, none⟩) l.length c ∧ W.frozen? ⟨b, i, none⟩ = false ∧ W.cell? ⟨b, i, none⟩ = some u0 ∧ XW own (W.setCell ⟨b, i, none⟩ (.int .u8 y)) v (l.set i y) ∧ Sn (fun q => q = 9) own W own (W.setCell ⟨b, i, none⟩ (.int .u8 y)) := by
  obtain ⟨b, c, e1, e2⟩ := h.cell (List.getElem?_eq_getElem hi)
  obtain ⟨ho, hb⟩ := h
  subst e1
  have K : Keeps (fun q => own q = 9) W (W.setCell ⟨b, i, none⟩ (.int .u8 y)) := (Keeps.refl _ _).setCell _ _ (fun _ => (hb b rfl).1)
  have o3 := owns_setCell ho i (by omega) (.int .u8 y)
  refine ⟨b, c, _, rfl, owns_frozen ho i, e2, ⟨?_, fun q hq => ⟨(hb q hq).1, Nat.lt_of_lt_of_le (hb q hq).2 K.size⟩⟩, ⟨fun _ _ => rfl, K⟩⟩
  unfold bv
  rw [List.length_set, List.map_set]
  exact o3
/-- its first bytes: the piece -/
theorem XW.front {b BL wc L3 : Nat} (h : XW own W (.slice (some ⟨b, 0, none⟩) L3 wc) (B ++ [91, 92, 93])) (hB : B.length = BL) : RdS (fun k => own k = 1) W (.slice (some ⟨b, 0, none⟩) BL wc) B := by
  have hl : BL + 3 ≤ wc := by obtain ⟨_, c, e, h1⟩ := h.shape; injection e with _ _ e; subst e; rw [List.length_append, hB] at h1; exact h1
  refine ⟨⟨_, wc, by rw [bv_length, hB], by rw [bv_length, hB]; omega, fun j u hj => ?_⟩, fun l c e => by cases e⟩
  refine ⟨_, rfl, fun e => ?_, ?_⟩
  · have e' : own b = 1 := e
    rw [(h.2 b rfl).1] at e'
    cases e'
  · have hjl : j < B.length := by have := (List.getElem?_eq_some_iff.1 hj).1; rwa [bv_length] at this
    have := h.1.cells rfl j u (by rw [bv_append, List.getElem?_append_left (by rw [bv_length]; exact hjl)]; exact hj)
    exact this
/-- the document's frames, in blocks that are 5's -/
structure Dn (own : Nat → Nat) (W : World) (wv : Value) (ys : List FX) : Prop where
  r : ReadsK 6 W wv ys.length (fcells ys)
  o : ys ≠ [] → ∀ b, wv.ownBlock = some b → b < W.heap.size ∧ own b = 5
  y : ∀ y ∈ ys, RdX own W y.2 y.1.2
theorem Dn.sn (h : Dn own W wv ys) (s : Sn I own W own' w') (h5 : ¬ I 5) : Dn own' w' wv ys := by
  by_cases he : ys = []
  · subst he
    obtain ⟨hl, a, c, e, h1, h2, h3, _⟩ := h.r
    exact ⟨⟨hl, a, c, e, h1, h2, h3, fun j u hj => by simp [fcells] at hj⟩, fun e => absurd rfl e, fun y hy => by cases hy⟩
  · refine ⟨h.r.later s.keeps (fun b hb e => h5 ((h.o he b hb).2 ▸ e)), fun _ b hb => ⟨Nat.lt_of_lt_of_le (h.o he b hb).1 s.keeps.size, (s.agree b (h.o he b hb).1).trans (h.o he b hb).2⟩, fun y hy => (h.y y hy).sn s h5⟩
theorem Dn.of (h : FramesN w.heap.size W wv fs) : ∃ ys, ys.map (·.1) = fs ∧ Dn (give own w.heap.size 5) W wv ys := by
  obtain ⟨ys, e, r, hb, hx⟩ := h
  refine ⟨ys, e, r, fun he b hb' => ?_, fun y hy => RdX.new (hx y hy).1 (hx y hy).2⟩
  obtain ⟨hl, a, c, e1, _, _, _, hc⟩ := r
  have h0 : 0 < (fcells ys).length := by rw [hl]; have := List.length_pos_iff.2 he; omega
  obtain ⟨g, o, e2, hce⟩ := hc 0 _ (List.getElem?_eq_getElem h0)
  subst e1 e2
  simp only [Value.ownBlock, Option.some.injEq] at hb'
  subst hb'
  exact ⟨World.block_lt_of_cell? W _ hce, give_new (hb g o _ _ rfl)⟩
theorem str_run {x : Value} {T : List Int} {S : ByteArray} (h : Rd W x T) (hS : Aside (strOf T = S)) : (convert 29 9 x).run Tryd.prog W = .ok (.string S) W := by
  have sc := run_bytesStr (P := Tryd.prog) W 29 9 5 _ _ Tryd.underlying29 Tryd.underlying5 Tryd.underlying9 h.holds
  rw [hS.it] at sc
  exact sc
theorem LR.max {k m : Nat} {v : Value} (h : LR own W k v n m) : n ≤ 9223372036854775807 := by
  obtain ⟨cs, ⟨ho, _⟩, _⟩ := h
  rcases ho.2 with ⟨_, h0⟩ | ⟨g, cap, cur, _, _, _, h1, h2, _⟩
  · omega
  · unfold maxLen at h2; omega
/-- ahead of the program's Feed -/
structure Rv (A : Nat → Addr) (w0 : World) (own : Nat → Nat) (W : World) (p : Nat) (most : Int) (F : List Int) (mb : Nat) (bx : Value) (F2 : List Int) (fv2 : Value) (nb : Nat) (wv : Value) (ys : List FX) (kv : Value) (XS : List FX) (kw : Value) (YS : List FX) (lv : Value) (vs : List Value) (xv : Value) (l : List Int) : Prop where
  L : Lw A w0 own 1 2 p most (prs most F).rest (prs most F).dead W
  r : RdX own W fv2 F2
  b : CellsO own 6 W mb 31 [.int .i64 most, bx]
  n : CellsO own 6 W nb 31 [.int .i64 most, fv2]
  d : Dn own W wv ys
  e : Ex own W kv XS kw YS lv vs
  x : XW own W xv l
/-- behind it -/
structure Rw (A : Nat → Addr) (w0 : World) (own : Nat → Nat) (W : World) (p : Nat) (most : Int) (F2 : List Int) (fv2 : Value) (mb : Nat) (bx gv : Value) (xs : List FX) (lo : Nat) (wv : Value) (ys : List FX) (kv : Value) (XS : List FX) (kw : Value) (YS : List FX) (lv : Value) (vs : List Value) (xv : Value) (l : List Int) : Prop where
  q : Fq A w0 own W p most F2 fv2 mb bx
  g : Gt own W gv xs lo
  d : Dn own W wv ys
  e : Ex own W kv XS kw YS lv vs
  x : XW own W xv l
theorem Rw.sn (h : Rw A w0 own W p most F2 fv2 mb bx gv xs lo wv ys kv XS kw YS lv vs xv l) (s : Sn I own W own' w') (hI : ∀ k, k ≤ 8 → ¬ I k) (h9 : ¬ I 9) (h20 : ¬ I 20) (h21 : ¬ I 21) (h22 : ¬ I 22) : Rw A w0 own' w' p most F2 fv2 mb bx gv xs lo wv ys kv XS kw YS lv vs xv l :=
  ⟨h.q.sn s (hI _ (by decide)) (hI _ (by decide)) (hI _ (by decide)) (hI _ (by decide)) (hI _ (by decide)), h.g.sn s (hI _ (by decide)), h.d.sn s (hI _ (by decide)), h.e.sn s (hI _ (by decide)) (hI _ (by decide)) h20 h21 h22, h.x.sn s h9⟩
theorem Rw.quiet (h : Rw A w0 own W p most F2 fv2 mb bx gv xs lo wv ys kv XS kw YS lv vs xv l) (hk : Keeps Nowhere W w') : Rw A w0 own w' p most F2 fv2 mb bx gv xs lo wv ys kv XS kw YS lv vs xv l := h.sn (I := fun _ => False) (Sn.same hk) (fun _ _ x => x) (fun x => x) (fun x => x) (fun x => x) (fun x => x)
/-- the document has been fed -/
theorem Rv.begin {w1 : World} (Q : Fq A w0 own W p most F fv mb bx) (E : Ex own W kv XS kw YS lv vs) (X : XW own W xv l) (hb : Below W.heap.size W w1) (hr : Rd w1 fv2 F2) (hn : (∀ g o l c, fv2 = .slice (some ⟨g, o, none⟩) l c → W.heap.size ≤ g) ∨ fv2 = fv) (hf : FramesN W.heap.size w1 wv fs) :
    ∃ ys, ys.map (·.1) = fs ∧ Rv A w0 (give (give own W.heap.size 5) w1.heap.size 6) (w1.alloc (.cells #[.int .i64 most, fv2] 31)) p most F mb bx F2 fv2 w1.heap.size wv ys kv XS kw YS lv vs xv l := by
  have k1 : Keeps Nowhere W w1 := Keeps.ofBelow hb
  have k2 : Keeps Nowhere w1 (w1.alloc (.cells #[.int .i64 most, fv2] 31)) := (Keeps.refl _ _).alloc _
  have s1 : Sn (fun _ => False) own W (give own W.heap.size 5) w1 := Sn.quiet k1 5
  have s2 : Sn (fun _ => False) (give own W.heap.size 5) w1 (give (give own W.heap.size 5) w1.heap.size 6) (w1.alloc (.cells #[.int .i64 most, fv2] 31)) := Sn.quiet k2 6
  obtain ⟨ys, e, d⟩ := Dn.of (own := own) hf
  have fx := Q.fed hb hr hn hf
  exact ⟨ys, e, fx.L, fx.r, fx.b, fx.n, d.sn s2 (fun x => x), (E.step k1 5).step k2 6, (X.sn s1 (fun x => x)).sn s2 (fun x => x)⟩
/-- the program has been fed -/
theorem Rv.got (h : Rv A w0 own W p most F mb bx (fedN most F B) fv2 nb wv ys kv XS kw YS lv vs xv l) (X : Fed A w0 own 1 2 W p most (feedO most (prs most F).rest (prs most F).dead B) own2 w' gv ev) :
    ∃ xs, xs.map (·.1) = (stepO most F B).fs ∧ Rw A w0 own2 w' p most (fedN most F B) fv2 mb bx gv xs W.heap.size wv ys kv XS kw YS lv vs xv l ∧ CellsO own2 6 w' nb 31 [.int .i64 most, fv2] := by
  have s : Sn (fun k => k = 1) own W own2 w' := ⟨X.ext, X.K⟩
  obtain ⟨e1, e2⟩ := prs_next (most := most) F B
  obtain ⟨xs, hx, g⟩ := Gt.of X.N
  refine ⟨xs, hx, ⟨⟨⟨X.G, ?_⟩, h.r.sn s (by decide), h.b.sn s (by decide)⟩, g, h.d.sn s (by decide), h.e.sn s (by decide) (by decide) (by decide) (by decide) (by decide), h.x.sn s (by decide)⟩, h.n.sn s (by decide)⟩
  rw [e1, e2]; exact X.D
/-- m = now -/
theorem Rw.write (h : Rw A w0 own W p most F2 fv2 mb bx gv xs lo wv ys kv XS kw YS lv vs xv l) : Rw A w0 own ((W.setCell ⟨mb, 0, none⟩ (.int .i64 most)).setCell ⟨mb, 1, none⟩ fv2) p most F2 fv2 mb fv2 gv xs lo wv ys kv XS kw YS lv vs xv l := by
  have s : Sn (fun k => k = 6) own W own ((W.setCell ⟨mb, 0, none⟩ (.int .i64 most)).setCell ⟨mb, 1, none⟩ fv2) := ⟨fun _ _ => rfl, ((Keeps.refl _ _).setCell _ _ (fun _ => h.q.b.2)).setCell _ _ (fun _ => h.q.b.2)⟩
  exact ⟨⟨h.q.L.sn s (by decide) (by decide) (by decide), h.q.r.sn s (by decide), ⟨(h.q.b.1.setCell 0 (.int .i64 most)).setCell 1 fv2, h.q.b.2⟩⟩, h.g.sn s (by decide), h.d.sn s (by decide), h.e.sn s (by decide) (by decide) (by decide) (by decide) (by decide), h.x.sn s (by decide)⟩
/-- a byte of the piece's copy is written over -/
theorem Rw.put {i : Nat} (h : Rw A w0 own W p most F2 fv2 mb bx gv xs lo wv ys kv XS kw YS lv vs xv l) (hi : i < l.length) (y : Int) : ∃ b c u0, xv = .slice (some ⟨b, 0, none⟩) l.length c ∧ W.frozen? ⟨b, i, none⟩ = false ∧ W.cell? ⟨b, i, none⟩ = some u0 ∧ Rw A w0 own (W.setCell ⟨b, i, none⟩ (.int .u8 y)) p most F2 fv2 mb bx gv xs lo wv ys kv XS kw YS lv vs xv (l.set i y) := by
  obtain ⟨b, c, u0, e, f, ce, x2, s⟩ := h.x.put hi y
  exact ⟨b, c, u0, e, f, ce, ⟨h.q.sn s (by decide) (by decide) (by decide) (by decide) (by decide), h.g.sn s (by decide), h.d.sn s (by decide), h.e.sn s (by decide) (by decide) (by decide) (by decide) (by decide), x2⟩⟩
/-- kept, want and lists grow -/
theorem Rw.grow (h : Rw A w0 own W p most F2 fv2 mb fv2 gv xs lo wv ys kv XS kw YS lv vs xv l) (he : xs.map (·.1) = ys.map (·.1)) (hb : XS.length + xs.length ≤ 3298534883328) (hv : vs.length ≤ 1048576) (hlo : (∀ x ∈ XS, ∀ b, x.2.ownBlock = some b → b < lo) ∧ ∀ v ∈ vs, ∀ b, v.ownBlock = some b → b < lo) {ga : Option Addr} {gl gc : Nat} (hg : gv = .slice ga gl gc) {X X2 Y Y2 : Nat} (hX : XS.length = X) (hx : xs.length = X2) (hY : YS.length = Y) (hy : ys.length = Y2) {J : Nat} (hJ : vs.length = J) :
    ∃ (ka : Option Addr) (kc : Nat) (w1 : World) (wa : Option Addr) (wc : Nat) (w2 : World) (la : Option Addr) (lc : Nat) (w3 : World) (own3 : Nat → Nat), (∀ ty, (Builtin.append_ #[34, 34] ty #[kv, gv]).run Tryd.prog W = .ok (.slice ka (X + X2) kc) w1) ∧ (∀ ty, (Builtin.append_ #[34, 34] ty #[kw, wv]).run Tryd.prog w1 = .ok (.slice wa (Y + Y2) wc) w2) ∧ (∀ ty, (Builtin.append_ #[35, 35] ty #[lv, .slice (some ⟨w2.heap.size, 0, none⟩) 1 1]).run Tryd.prog (w2.alloc (.cells #[gv] 34)) = .ok (.slice la (J + 1) lc) w3) ∧
      Aside (Fq A w0 own3 w3 p most F2 fv2 mb fv2 ∧ Ex own3 w3 (.slice ka (X + X2) kc) (XS ++ xs) (.slice wa (Y + Y2) wc) (YS ++ ys) (.slice la (J + 1) lc) (vs ++ [gv])) := by
  have hYX : YS.length + ys.length = XS.length + xs.length := by have h1 := congrArg List.length h.e.e; have h2 := congrArg List.length he; simp only [List.length_map] at h1 h2; omega
  subst hX hx hY hy hJ
  obtain ⟨ka, kc, w1, own1, run1, R1⟩ := h.e.keep h.g hb
  have s1 := R1.it.2
  have d1 := h.d.sn s1 (by decide)
  obtain ⟨wa, wc, w2, own2, run2, R2⟩ := Ex.want (h.e.w.sn s1 (by decide)) d1.r (fun y hy => (d1.y y hy).1) (by omega)
  have s2 := R2.it.2
  subst hg
  obtain ⟨la, lc, w3, run3, R3⟩ := appL (a0 := ga) (l0 := gl) (c0 := gc) ((h.e.l.sn s1 (by decide)).sn s2 (by decide)) hv
  have s3 := R3.it.2
  refine ⟨ka, kc, w1, wa, wc, w2, la, lc, w3, _, run1, run2, run3, ⟨((h.q.sn s1 (by decide) (by decide) (by decide) (by decide) (by decide)).sn s2 (by decide) (by decide) (by decide) (by decide) (by decide)).sn s3 (by decide) (by decide) (by decide) (by decide) (by decide), ?_⟩⟩
  have g3 := ((h.g.sn s1 (by decide)).sn s2 (by decide)).sn s3 (by decide)
  have d3 := (d1.sn s2 (by decide)).sn s3 (by decide)
  have x3 : ∀ x ∈ XS, DataO (give own2 w2.heap.size 22) 2 w3 x.2 x.1.2 := fun x hx => (((h.e.x x hx).sn2 s1 (by decide)).sn2 s2 (by decide)).sn2 s3 (by decide)
  have k3 := ((R1.it.1.sn s2 (by decide)).sn s3 (by decide))
  have w3' := R2.it.1.sn s3 (by decide)
  have y3 : ∀ y ∈ YS, RdX (give own2 w2.heap.size 22) w3 y.2 y.1.2 := fun y hy => (((h.e.y y hy).sn s1 (by decide)).sn s2 (by decide)).sn s3 (by decide)
  have l3 : ∀ v ∈ vs, ∃ n cs, w3.ownsRow 0 46 6 v n cs ∧ ∀ b, v.ownBlock = some b → give own2 w2.heap.size 22 b = 2 := fun v hv => by
    obtain ⟨n, cs, r1, r2⟩ := h.e.ls v hv
    have q1 := owns_later r1 s1.keeps (fun b hb e => by rw [r2 b hb] at e; cases e)
    have r3 : ∀ b, v.ownBlock = some b → own1 b = 2 := fun b hb => (s1.agree b (owns_lt r1 b hb)).trans (r2 b hb)
    have q2 := owns_later q1 s2.keeps (fun b hb e => by rw [r3 b hb] at e; cases e)
    have r4 : ∀ b, v.ownBlock = some b → own2 b = 2 := fun b hb => (s2.agree b (owns_lt q1 b hb)).trans (r3 b hb)
    exact ⟨n, cs, owns_later q2 s3.keeps (fun b hb e => by rw [r4 b hb] at e; cases e), fun b hb => (s3.agree b (owns_lt q2 b hb)).trans (r4 b hb)⟩
  refine ⟨by rw [fcells_append, List.length_append]; exact k3, fun x hx => ?_, h.e.ap.join g3.ap hlo.1 g3.lo, by rw [fcells_append, List.length_append]; exact w3', fun y hy => ?_, by rw [List.map_append, List.map_append, h.e.e, he], by rw [List.length_append]; exact R3.it.1, fun v hv' => ?_, ?_⟩
  · rcases List.mem_append.1 hx with hx | hx
    · exact x3 x hx
    · exact g3.d x hx
  · rcases List.mem_append.1 hy with hy | hy
    · exact y3 y hy
    · exact d3.y y hy
  · rcases List.mem_append.1 hv' with hv' | hv'
    · exact l3 v hv'
    · rw [List.mem_singleton] at hv'
      subst hv'
      exact ⟨_, _, g3.r, fun b hb => (g3.o b hb).1⟩
  · exact apart_push h.e.la hlo.2 (fun b hb => (g3.o b hb).2)
end
end Go.Proofs.YtjhjhmhhnifgmaaDoor

