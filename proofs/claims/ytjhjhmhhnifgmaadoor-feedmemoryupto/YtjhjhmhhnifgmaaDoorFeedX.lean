/-
  layer 5's laws: 'fixed'.
-/
import Derived.Test.YtjhjhmhhnifgmaaDoorFeedH
namespace Go.Proofs.YtjhjhmhhnifgmaaDoor
open Go.RowKit

section
variable {A : Nat → Addr} {w0 : World} {own : Nat → Nat} {i j : Nat} {w w' : World} {p : Nat} {most : Int} {hs : List Int} {dead : Option (List Int)}
theorem VioAt.ext {h : List Int} {vb : Nat} {own' : Nat → Nat} (hv : VioAt A own j w most h vb) (he : ∀ k, k < w.heap.size → own' k = own k) : VioAt A own' j w most h vb := by
  obtain ⟨a, k, b, c, d, e⟩ := hv
  exact ⟨(he vb e.lt).trans a, k, b, c, d, e⟩
theorem DecS.ext {own' : Nat → Nat} (D : DecS A own i j w p most hs dead) (he : ∀ k, k < w.heap.size → own' k = own k) : DecS A own' i j w p most hs dead := by
  cases dead with
  | none =>
    obtain ⟨⟨g, d, hg⟩, l⟩ := D
    exact ⟨⟨g, d.ext own' he, hg⟩, l⟩
  | some h =>
    obtain ⟨vb, a, ⟨g, c⟩, v⟩ := D
    exact ⟨vb, (he p c.lt).trans a, ⟨g, c⟩, v.ext he⟩
/-- Feed of bytes that lie in new memory -/
theorem feed_a (hi : i ≠ 0) (hij : j ≠ i) (h3 : 3 ≠ i) {W : World} (G : Gr A w0 own w) (D : DecS A own i j w p most hs dead) (hk : Keeps Nowhere w W) (x : Value) (b : List Int) (R : RdS (fun k => k < w.heap.size ∧ own k = i) W x b) (hb : AreBytes b) (hN : hs.length + b.length ≤ 1099511627776) :
    Calls Tryd.prog 8 #[dPtr p, x] W fun e w' => ∃ fv ev own', e = .returned (.tuple #[fv, ev]) ∧ Aside (Fed A w0 (give own w.heap.size 3) i j W p most (feedO most hs dead b) own' w' fv ev) := by
  have he : ∀ k, k < w.heap.size → give own w.heap.size 3 k = own k := fun k hk => give_old hk
  refine feed_s hi hij ((G.ext he).quiet hk) ((D.ext he).quiet hk) x b (R.mono (fun k e _ => ?_)) hb hN
  rcases Nat.lt_or_ge k w.heap.size with hl | hl
  · exact ⟨hl, (give_old hl).symm.trans e⟩
  · exact absurd ((give_new hl).symm.trans e) h3
theorem rds_new (w : World) (b : List Int) (n : Nat) (hn : b.length = n) : RdS (fun k => k < w.heap.size ∧ own k = i) (w.alloc (.cells (b.map (Value.int .u8)).toArray 5)) (.slice (some ⟨w.heap.size, 0, none⟩) n n) b := by
  subst hn
  have h := (row_new w 5 (bv b)).reads (S := fun k => k < w.heap.size ∧ own k = i) (fun k hk => by simp [Value.ownBlock] at hk; omega)
  rw [bv_length] at h
  exact ⟨h, fun l c e => by injection e with e; cases e⟩
/-- Feed of a literal -/
theorem feed_new (G : Gr A w0 own w) (D : DecS A own 1 2 w p most hs dead) (b : List Int) (n : Nat) (hn : b.length = n) (hb : AreBytes b) (hN : hs.length + b.length ≤ 1099511627776) (o : Out) (ho : feedO most hs dead b = o) (ob : Obj) (hob : ob = .cells (b.map (Value.int .u8)).toArray 5) :
    Calls Tryd.prog 8 #[dPtr p, .slice (some ⟨w.heap.size, 0, none⟩) n n] (w.alloc ob) fun e w' => ∃ q c ev own', e = .returned (.tuple #[.slice q o.fs.length c, ev]) ∧ Aside (Fed A w0 (give own w.heap.size 3) 1 2 (w.alloc ob) p most o own' w' (.slice q o.fs.length c) ev) := by
  subst ho hob
  refine (feed_a (by decide) (by decide) (by decide) G D ((Keeps.refl _ _).alloc _) _ b (rds_new w b n hn) hb hN).mono ?_
  rintro e w' ⟨fv, ev, own', rfl, X⟩
  obtain ⟨q, c, rfl⟩ := X.it.F.shape
  exact ⟨q, c, ev, own', rfl, X⟩
theorem fcells_get : ∀ (xs : List FX) (k m : Nat) (x : FX), xs[k]? = some x → m < 6 → (fcells xs)[k * 6 + m]? = (frmL x.1.1 x.2)[m]?
  | [], k, m, x, h, _ => by simp at h
  | y :: xs, 0, m, x, h, hm => by
    simp only [List.getElem?_cons_zero, Option.some.injEq] at h
    subst h
    rw [fcells, List.flatMap_cons, Nat.zero_mul, Nat.zero_add, List.getElem?_append_left (by simpa using hm)]
  | y :: xs, k + 1, m, x, h, hm => by
    have ih := fcells_get xs k m x (by simpa using h) hm
    rw [fcells, List.flatMap_cons, List.getElem?_append_right (by simp; omega)]
    rw [← ih, fcells]
    congr 1
    simp
    omega
/-- a frame's six cells -/
def FrAt (w : World) (g o : Nat) (h : List Int) (dv : Value) : Prop :=
  w.cell? ⟨g, o, none⟩ = some (.int .u8 (dV h)) ∧ w.cell? ⟨g, o + 1, none⟩ = some (.int .u8 (dT h)) ∧ w.cell? ⟨g, o + 2, none⟩ = some (.int .u16 (dF h)) ∧ w.cell? ⟨g, o + 3, none⟩ = some (.int .u32 (dS h)) ∧ w.cell? ⟨g, o + 4, none⟩ = some (.int .u32 (dL h)) ∧ w.cell? ⟨g, o + 5, none⟩ = some dv
/-- frames that can be read -/
def FramesR (w : World) (v : Value) (fs : List (List Int × List Int)) : Prop := ∃ xs : List FX, xs.map (·.1) = fs ∧ ReadsK 6 w v xs.length (fcells xs) ∧ ∀ x ∈ xs, Rd w x.2 x.1.2
theorem DataO.rd {v : Value} {ns : List Int} (h : DataO own j w v ns) : Rd w v ns := (show OwnB 0 w v ns from h.1).rd
theorem FramesO.reads {v : Value} {fs : List (List Int × List Int)} (h : FramesO own j w v fs) : FramesR w v fs := by
  obtain ⟨xs, h1, h2, h3, h4⟩ := h
  exact ⟨xs, h1, owns_readsK h2, fun x hx => (h4 x hx).rd⟩
theorem FramesR.shape {v : Value} {fs : List (List Int × List Int)} (F : FramesR w v fs) : ∃ q c, v = .slice q fs.length c := by
  obtain ⟨xs, h1, ⟨_, a, c, e, _⟩, _⟩ := F
  exact ⟨a, c, by rw [e, ← h1, List.length_map]⟩
theorem FramesR.at {q : Option Addr} {l c k : Nat} {h d : List Int} {fs : List (List Int × List Int)} (F : FramesR w (.slice q l c) fs) (hk : fs[k]? = some (h, d)) :
    ∃ g o dq dc, q = some ⟨g, o, none⟩ ∧ Aside (FrAt w g (o + k * 6) h (.slice dq d.length dc)) ∧ Aside (Rd w (.slice dq d.length dc) d) := by
  obtain ⟨xs, h1, ⟨_, a, c', e, _, _, _, hc⟩, h4⟩ := F
  injection e with e1 e2 e3
  subst e1 e2 e3
  rw [← h1, List.getElem?_map, Option.map_eq_some_iff] at hk
  obtain ⟨x, hx, ex⟩ := hk
  have hr := h4 x (List.mem_of_getElem? hx)
  obtain ⟨dq, dc, ed⟩ := hr.shape
  have g0 := fun m (hm : m < 6) u (hu : (frmL x.1.1 x.2)[m]? = some u) => hc (k * 6 + m) u ((fcells_get xs k m x hx hm).trans hu)
  obtain ⟨g, o, rfl, c0⟩ := g0 0 (by decide) _ rfl
  have gg : ∀ m (hm : m < 6) u (hu : (frmL x.1.1 x.2)[m]? = some u), w.cell? ⟨g, o + k * 6 + m, none⟩ = some u := fun m hm u hu => by
    obtain ⟨g', o', e, cc⟩ := g0 m hm u hu
    injection e with e
    injection e with e1 e2
    subst e1 e2
    rw [Nat.add_assoc]
    exact cc
  have ex1 : x.1.1 = h := by rw [ex]
  have ex2 : x.1.2 = d := by rw [ex]
  rw [ex1] at gg
  rw [ed, ex2] at gg
  refine ⟨g, o, dq, dc, rfl, ⟨gg 0 (by decide) _ rfl, gg 1 (by decide) _ rfl, gg 2 (by decide) _ rfl, gg 3 (by decide) _ rfl, gg 4 (by decide) _ rfl, gg 5 (by decide) _ rfl⟩, ⟨?_⟩⟩
  rw [ed, ex2] at hr
  exact hr

abbrev fx1 : List Int := [0, 1, 0, 1, 0, 0]
abbrev fx2 : List Int := [0, 7, 0, 0, 0, 0, 1]
abbrev fx3 : List Int := [0, 0, 0, 0, 0, 0, 9, 0, 0, 0, 0]
abbrev fxh : List Int := [0, 1, 0, 1, 0, 0, 0, 7, 0, 0, 0, 0]
abbrev fxd : List Int := [1, 0, 0, 0, 0, 0, 0, 9, 0, 0, 0, 0]
theorem fx_1 : feedO 3 [] none fx1 = ⟨[], fx1, none⟩ := parse_short (by decide)
theorem fx_ok : ckH 3 fxh = true := by decide +kernel
theorem fx_sz : szN fxh = 0 := by decide +kernel
theorem fx_2 : feedO 3 fx1 none fx2 = ⟨[(fxh, [])], [1], none⟩ := by
  have := parse_frame (ck := ckH 3) (sz := szN) fxh [] [1] rfl fx_ok (by rw [fx_sz]; rfl)
  rw [parse_short (ns := [1]) (by decide)] at this
  exact this
theorem fx_bad : ckH 3 fxd = false := by decide +kernel
theorem fx_3 : feedO 3 [1] none fx3 = ⟨[], [], some fxd⟩ := parse_dead (ck := ckH 3) (sz := szN) fxd [] rfl fx_bad
theorem fx_code : codeS 3 (some fxd) = 1011 := by decide +kernel
theorem fx_strm : strmS (some fxd) = 9 := by decide +kernel
theorem fx_want : wantsS fx1 none = 6 := by decide +kernel
theorem fx_hv : dV fxh = 0 := by decide +kernel
theorem fx_ht : dT fxh = 1 := by decide +kernel
theorem fx_hf : dF fxh = 1 := by decide +kernel
theorem fx_hs : dS fxh = 7 := by decide +kernel
theorem fx_hl : dL fxh = 0 := by decide +kernel
theorem areBytes_of (b : List Int) (h : b.all (fun n => decide (0 ≤ n ∧ n ≤ 255)) = true) : AreBytes b := fun n hn => of_decide_eq_true (List.all_eq_true.1 h n hn)
end
end Go.Proofs.YtjhjhmhhnifgmaaDoor
