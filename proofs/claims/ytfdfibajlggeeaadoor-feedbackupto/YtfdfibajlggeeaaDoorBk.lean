import Derived.Test.YtfdfibajlggeeaaDoorFeedV
import Derived.Test.YtfdfibajlggeeaaDoorFrameBk
import Derived.Test.YtfdfibajlggeeaaDoorSameFr
import Derived.Test.YtfdfibajlggeeaaDoorOpn
import Derived.Test.YtfdfibajlggeeaaDoorOpenU
import Derived.Deep.Cut
/-
  FeedBack: the bytes and the frames gathered.
-/
namespace Go.Proofs.YtfdfibajlggeeaaDoor
open Go.RowKit

section
variable {A : Nat → Addr} {w w' w0 W : World} {most : Int} {bv' wv : Value} {fs : List (List Int × List Int)} {v t f s l : Int} {d : Value} {ns : List Int} {p : Nat}
/-- what is gathered: the bytes, and the frames that they are of -/
structure Fz (A : Nat → Addr) (w0 : World) (most : Int) (bv' wv : Value) (fs : List (List Int × List Int)) (w : World) : Prop where
  base : Base A w0
  bel : Below w0.heap.size w0 w
  b : OwnB w0.heap.size w bv' (flat fs)
  want : ∃ xs : List FX, xs.map (·.1) = fs ∧ w.ownsRow w0.heap.size 31 6 wv xs.length (fcells xs) ∧ ∀ x ∈ xs, Rd w0 x.2 x.1.2
  ok : ∀ x ∈ fs, FrOk (ckH most) szN x ∧ AreBytes x.1 ∧ AreBytes x.2
theorem Fz.later (h : Fz A w0 most bv' wv fs w) (hb : Below w.heap.size w w') : Fz A w0 most bv' wv fs w' := by
  obtain ⟨xs, e, o, r⟩ := h.want
  exact ⟨h.base, h.bel.trans (hb.mono h.bel.size), h.b.later hb, ⟨xs, e, owns_later o (Keeps.ofBelow (S := Nowhere) hb) (fun _ _ x => x), r⟩, h.ok⟩
theorem Fz.now (h : Fz A w0 most bv' wv fs w) : Base A w := h.base.later h.bel
theorem Fz.start (B : Base A w) : Fz A w most (.slice none 0 0) (.slice none 0 0) [] w :=
  ⟨B, Below.refl _ _, World.ownsRow_nil _ _ _ _, ⟨[], rfl, World.ownsRow_nil _ _ _ _, fun x hx => by cases hx⟩, fun x hx => by cases hx⟩
theorem Fz.frames (h : Fz A w0 most bv' wv fs w) : FramesR w wv fs := by
  obtain ⟨xs, e, o, r⟩ := h.want
  exact ⟨xs, e, owns_readsK o, fun x hx => (r x hx).later h.bel⟩
/-- the bytes are longer: the frames stay -/
theorem Fz.appB (h : Fz A w0 most bv' wv fs w) (k : Keeps (fun b => bv'.ownBlock = some b) w w') : Below w0.heap.size w0 w' ∧ ∃ xs : List FX, xs.map (·.1) = fs ∧ w'.ownsRow w0.heap.size 31 6 wv xs.length (fcells xs) ∧ ∀ x ∈ xs, Rd w0 x.2 x.1.2 := by
  obtain ⟨xs, e, ow, r⟩ := h.want
  refine ⟨below_next h.bel k h.bel.size (fun b hb _ => owns_base h.b b hb), xs, e, owns_later ow k (fun b hb e' => ?_), r⟩
  exact owns_owns (owns_any ow) (owns_any h.b) (by decide) b hb e'
/-- one frame more -/
theorem Fz.appW {v1 v2 : Value} {x : FX} (B : Base A w0) (hbel : Below w0.heap.size w0 w) (ob : OwnB w0.heap.size w v1 (flat (fs ++ [x.1]))) (hok : ∀ x ∈ fs, FrOk (ckH most) szN x ∧ AreBytes x.1 ∧ AreBytes x.2) (hx : FrOk (ckH most) szN x.1 ∧ AreBytes x.1.1 ∧ AreBytes x.1.2) (hr : Rd w0 x.2 x.1.2)
    {xs : List FX} (e : xs.map (·.1) = fs) (ow : w.ownsRow w0.heap.size 31 6 wv xs.length (fcells xs)) (r : ∀ x ∈ xs, Rd w0 x.2 x.1.2) (o : w'.ownsRow w0.heap.size 31 6 v2 (xs.length + 1) (fcells xs ++ frmL x.1.1 x.2)) {w1 : World} (k1 : Keeps Nowhere w w1) (k : Keeps (fun b => wv.ownBlock = some b) w1 w') :
    Fz A w0 most v1 v2 (fs ++ [x.1]) w' := by
  refine ⟨B, below_next (below_next hbel k1 hbel.size (fun _ x _ => x.elim)) k (Nat.le_trans hbel.size k1.size) (fun b hb _ => owns_base ow b hb), ?_, ⟨xs ++ [x], by simp [e], ?_, ?_⟩, ?_⟩
  · exact owns_later (owns_later ob k1 (fun _ _ x => x)) k (fun b hb e' => owns_owns (owns_any ob) (owns_any ow) (by decide) b hb e')
  · rw [List.length_append, fcells_append, fcells_one]
    exact o
  · intro y hy
    rcases List.mem_append.1 hy with h | h
    · exact r y h
    · simp only [List.mem_singleton] at h; subst h; exact hr
  · intro y hy
    rcases List.mem_append.1 hy with h | h
    · exact hok y h
    · simp only [List.mem_singleton] at h; subst h; exact hx
/-- what the bytes of frames that may be are read as -/
theorem prs_flat (h : ∀ x ∈ fs, FrOk (ckH most) szN x) : prs most (flat fs) = ⟨fs, [], none⟩ := by
  have := parse_flat (ck := ckH most) (sz := szN) fs [] h
  rw [List.append_nil] at this
  show parse (ckH most) szN (flat fs) = _
  rw [this, parse_short (by decide)]
  simp
theorem flat_bytes (h : ∀ x ∈ fs, AreBytes x.1 ∧ AreBytes x.2) : AreBytes (flat fs) := by
  induction fs with
  | nil => intro n hn; cases hn
  | cons x r ih =>
    intro n hn
    have e : flat (x :: r) = (x.1 ++ x.2) ++ flat r := rfl
    rw [e] at hn
    rcases List.mem_append.1 hn with hn | hn
    · rcases List.mem_append.1 hn with hn | hn
      · exact (h x (by simp)).1 n hn
      · exact (h x (by simp)).2 n hn
    · exact ih (fun y hy => h y (by simp [hy])) n hn
end
end Go.Proofs.YtfdfibajlggeeaaDoor

/-
  FeedBack, walked.
-/
namespace Go.Proofs.YtfdfibajlggeeaaDoor
open Go.RowKit

section
variable {A : Nat → Addr} {w w' w0 W : World} {most : Int} {bv' wv : Value} {fs : List (List Int × List Int)} {v t f s l : Int} {d : Value} {ns : List Int} {p : Nat}
/-- and the frame in its box -/
structure Fy (A : Nat → Addr) (w0 : World) (most : Int) (bv' wv : Value) (fs : List (List Int × List Int)) (p : Nat) (v t f s l : Int) (d : Value) (ns : List Int) (w : World) : Prop where
  z : Fz A w0 most bv' wv fs w
  box : Cells w p 31 [.int .u8 v, .int .u8 t, .int .u16 f, .int .u32 s, .int .u32 l, d]
  r : Rd w0 d ns
theorem Fy.later (h : Fy A w0 most bv' wv fs p v t f s l d ns w) (hb : Below w.heap.size w w') : Fy A w0 most bv' wv fs p v t f s l d ns w' := ⟨h.z.later hb, h.box.later (Keeps.ofBelow (S := Nowhere) hb) (fun x => x), h.r⟩
theorem box_cells (h : Cells w p 31 [.int .u8 v, .int .u8 t, .int .u16 f, .int .u32 s, .int .u32 l, d]) : w.cell? ⟨p, 0, none⟩ = some (.int .u8 v) ∧ w.cell? ⟨p, 1, none⟩ = some (.int .u8 t) ∧ w.cell? ⟨p, 2, none⟩ = some (.int .u16 f) ∧ w.cell? ⟨p, 3, none⟩ = some (.int .u32 s) ∧ w.cell? ⟨p, 4, none⟩ = some (.int .u32 l) ∧ w.cell? ⟨p, 5, none⟩ = some d := by
  refine ⟨?_, ?_, ?_, ?_, ?_, ?_⟩ <;> rw [h.cell] <;> rfl
theorem fy_bytes (hn : ns.length ≤ 1048576) (z : (0 ≤ f ∧ f ≤ 65535) ∧ (0 ≤ s ∧ s ≤ 4294967295) ∧ (0 ≤ l ∧ l ≤ 4294967295)) (h : Aside (Fy A w0 most bv' wv fs p v t f s l d ns W)) :
    Calls Tryd.prog 5 #[frm v t f s l d] W fun e w' => ∃ q n c ev, e = .returned (.tuple #[.slice q n c, ev]) ∧ Aside (Coded A ev (bE t l ns.length)) ∧ Aside (Rd w' (.slice q n c) (bO v t f s l ns)) ∧ Aside (Fy A w0 most bv' wv fs p v t f s l d ns w') :=
  (bytes_any v t f s l d ns W h.it.z.now.s (h.it.r.later h.it.z.bel) (by omega) z.1.1 z.1.2 z.2.1.1 z.2.1.2 z.2.2.1 z.2.2.2).mono (by
    rintro e w' ⟨y, ev, rfl, V, O, hb⟩
    obtain ⟨q, c, e⟩ := O.it.shape
    subst e
    exact ⟨q, _, c, ev, rfl, V, ⟨O.it.rd⟩, ⟨h.it.later hb⟩⟩)
theorem fy_check (ht : 0 ≤ t ∧ t ≤ 255) (z : (0 ≤ f ∧ f ≤ 65535) ∧ (0 ≤ s ∧ s ≤ 4294967295) ∧ (0 ≤ l ∧ l ≤ 4294967295)) {y : Value} {ys : List Int} (R : Aside (Rd W y ys)) (h : Aside (Fy A w0 most bv' wv fs p v t f s l d ns W)) :
    Calls Tryd.prog 6 #[hdr v t f s l, .int .i64 most] W fun e w' => ∃ ev, e = .returned ev ∧ Aside (Coded A ev (chk v t f s l most)) ∧ Aside (Rd w' y ys) ∧ Aside (Fy A w0 most bv' wv fs p v t f s l d ns w') :=
  (check_any v t f s l most W h.it.z.now.s h.it.z.now.l ht.1 ht.2 z.1.1 z.2.2.1 z.2.2.2).mono (by
    rintro e w' ⟨⟨ev, rfl, hv⟩, hb⟩
    exact ⟨ev, rfl, ⟨hv⟩, ⟨R.it.later hb⟩, ⟨h.it.later hb⟩⟩)
theorem enc_bytesB (hv : 0 ≤ v ∧ v ≤ 255) (ht : 0 ≤ t ∧ t ≤ 255) (z : (0 ≤ f ∧ f ≤ 65535) ∧ (0 ≤ s ∧ s ≤ 4294967295) ∧ (0 ≤ l ∧ l ≤ 4294967295)) : AreBytes (enc v t f s l) := by
  intro n hn
  simp only [enc, be2, be4, List.mem_append, List.mem_cons, List.not_mem_nil, or_false] at hn
  omega
/-- a frame that may be, from its header and payload -/
theorem frOk_of (hc : chk v t f s l most = 0) (hs : (ns.length : Int) = szH t l) : FrOk (ckH most) szN (enc v t f s l, ns) := by
  obtain ⟨e1, e2, e3, e4, e5⟩ := dec_enc v t f s l
  refine ⟨enc_length _ _ _ _ _, ?_, ?_⟩
  · show ckH most (enc v t f s l) = true
    unfold ckH chkH
    rw [e1, e2, e3, e4, e5]
    exact decide_eq_true hc
  · show ns.length = szN (enc v t f s l)
    unfold szN
    rw [e2, e5]
    omega
theorem frmL_enc (v t f s l : Int) (d : Value) : frmL (enc v t f s l) d = [.int .u8 v, .int .u8 t, .int .u16 f, .int .u32 s, .int .u32 l, d] := by
  obtain ⟨e1, e2, e3, e4, e5⟩ := dec_enc v t f s l
  simp only [frmL, e1, e2, e3, e4, e5]
theorem wants_z {own : Nat → Nat} {o : Out} {fv ev : Value} {n : Nat} (hn : wantsS o.rest o.dead = n) (H : Aside (FaAt A w0 own p most o fv ev W)) : Calls Tryd.prog 10 #[dPtr p] W fun e w' => e = .returned (.int .i64 n) ∧ Aside (FaAt A w0 own p most o fv ev w') := by
  refine (wants_s H.it.g.D).mono ?_
  rintro e w' ⟨rfl, k⟩
  exact ⟨by rw [hn], ⟨H.it.quiet k⟩⟩
theorem same_z {own : Nat → Nat} {o : Out} {fv ev y : Value} (hn : o.fs.length ≤ 1099511627776) (R : Aside (FramesR W y o.fs)) (H : Aside (FaAt A w0 own p most o fv ev W)) : Calls Tryd.prog 8 #[fv, y] W fun e w' => e = .returned (.bool true) ∧ Aside (FaAt A w0 own p most o fv ev w') := by
  refine (sameFrames_eq fv y o.fs H.it.g.F.reads R.it hn).mono ?_
  rintro e w' ⟨rfl, k⟩
  exact ⟨rfl, ⟨H.it.quiet k⟩⟩
theorem owns_rebase {B : Nat} {v' : Value} {ms : List Int} (o : w'.ownsRow 0 5 1 v' ms.length (bv ms)) (hb : ∀ b, v'.ownBlock = some b → B ≤ b) : OwnB B w' v' ms := by
  refine ⟨o.1, ?_⟩
  rcases o.2 with h0 | ⟨g, cap, cur, rfl, _, rest⟩
  · exact .inl h0
  · exact .inr ⟨g, cap, cur, rfl, hb g rfl, rest⟩
theorem frameInfoB : (Tryd.prog.info? 31).map (fun i => (i.zero, i.size, i.bytes)) = some (some (.agg zeroF.toArray), 6, 40) := frameInfo
end

set_option maxRecDepth 20000 in
set_option maxHeartbeats 1000000 in
theorem feedBack_walkU {A : Nat → Addr} (most : Int) (fr : Value) (zs : List FrV) (cu : Value) (cs : List Int) (w : World) (hs : Base A w) (hz : FramesArgS w fr zs) (hc : IntsArgU w cu cs) :
    Calls Tryd.prog 3 #[.int .i64 most, fr, cu] w fun e w' => e = .returned (.bool true) ∧ Below w.heap.size w w' := by
  obtain ⟨hl1, hsum, sa, sc, rfl, hlc, hmx, hat⟩ := hz
  obtain ⟨C, hK⟩ := hc
  obtain ⟨qa, ca, rfl⟩ := C.len
  obtain ⟨K, hKK⟩ : ∃ K, Aside (cs.length = K) := ⟨_, ⟨rfl⟩⟩
  rw [hKK.it] at hK C ⊢
  obtain ⟨M, hM⟩ : ∃ M, Aside (M = zs.length) := ⟨_, ⟨rfl⟩⟩
  rw [← hM.it] at hlc hl1 ⊢
  have F := Aside.mk (fixed5 hs)
  have HAT := Aside.mk hat
  have HS := Aside.mk hs
  have SUM := Aside.mk hsum
  have HC := Aside.mk C
  clear hat hs hsum C hmx
  go_enter Tryd.func3, Tryd.ntmps3
  go_upto_region 6 with (first | (go_at_call 4; refine F.it.mono ?_; rintro e w1 ⟨rfl, b1⟩; have B1 := Aside.mk b1; clear b1) | fail)
  have P1 : Aside (Fz A w most (.slice none 0 0) (.slice none 0 0) [] w1) := ⟨(Fz.start HS.it).later B1.it⟩
  clear F B1
  go_loopw [7, 8, 20] (fun bv' wv x wr => ∃ (k : Nat) (fs : List (List Int × List Int)) (q1 : Option Addr) (l1 c1 : Nat) (q2 : Option Addr) (l2 c2 : Nat), bv' = .slice q1 l1 c1 ∧ wv = .slice q2 l2 c2 ∧ x = .int .i64 k ∧ k ≤ M ∧ Aside ((flat fs).length ≤ 12 * k + ((zs.take k).map (fun z => z.ns.length)).sum ∧ fs.length ≤ k) ∧ Aside (Fz A w most (.slice q1 l1 c1) (.slice q2 l2 c2) fs wr)) (fun _ _ x _ => M - (intOf x).toNat)
  case atStart => exact ⟨0, [], none, 0, 0, none, 0, 0, rfl, rfl, rfl, Nat.zero_le _, ⟨by simp [flat], by simp⟩, P1⟩
  case round =>
    obtain ⟨k, fs, q1, l1, c1, q2, l2, c2, rfl, rfl, rfl, hk, HL, P2⟩ := hrel
    clear P1
    have tot : ((zs.take k).map (fun z => z.ns.length)).sum ≤ 1048576 := by
      have h1 := SUM.it
      have h2 : (zs.map (fun z => z.ns.length)).sum = ((zs.take k).map (fun z => z.ns.length)).sum + ((zs.drop k).map (fun z => z.ns.length)).sum := by
        rw [← List.sum_append, ← List.map_append, List.take_append_drop]
      omega
    have TOT := Aside.mk tot
    clear tot
    rcases Nat.eq_or_lt_of_le hk with e | hlt
    · subst e
      clear HAT
      have hb := Aside.mk (flat_bytes (fun x hx => (P2.it.ok x hx).2))
      have hR := P2.it.b.rd
      have hL2 : (flat fs).length ≤ 16777216 := by have := HL.it; have := TOT.it; omega
      by_cases hm : most < 1 ∨ 65536 < most
      · have G := Aside.mk (gives_bad P2.it.now hm (.slice q1 l1 c1) (.slice qa K ca))
        have BB := Aside.mk P2.it.bel
        clear hb hR hL2 P2 HL TOT
        rcases hm with hm | hm
        · go_wp2_with (first | (go_at_call 7; with_reducible refine G.it.mono ?_; rintro e w3 ⟨rfl, k3⟩; have k3 := Aside.mk k3) | fail)
          go_ret
          exact ⟨rfl, below_next BB.it k3.it BB.it.size (fun _ x _ => x.elim)⟩
        · have hm' : ¬ most < 1 := by omega
          go_wp2_with (first | (go_at_call 7; with_reducible refine G.it.mono ?_; rintro e w3 ⟨rfl, k3⟩; have k3 := Aside.mk k3) | fail)
          go_ret
          exact ⟨rfl, below_next BB.it k3.it BB.it.size (fun _ x _ => x.elim)⟩
      · have G := Aside.mk (gives_any (A := A) (most := most) P2.it.now (by omega) (by omega) q1 l1 c1 (flat fs) hR hb.it hL2 qa K ca cs (HC.it.later P2.it.bel) hK)
        rw [prs_flat (fun x hx => (P2.it.ok x hx).1)] at G
        have hm1 : ¬ most < 1 := by omega
        have hfs : fs.length ≤ 1099511627776 := by have := HL.it.2; omega
        have HFS := Aside.mk hfs
        clear hb hR hL2 HL TOT hm hfs
        go_upto_region 14 with (first | (go_at_call 7; with_reducible refine G.it.mono ?_; rintro e w3 ⟨fv, ev, p, own, rfl, X3⟩) | fail)
        have P3 : Aside (FaAt A w own p most ⟨fs, [], none⟩ fv ev w3) := ⟨⟨HS.it, P2.it.bel.trans (X3.it.1.mono P2.it.bel.size), X3.it.2⟩⟩
        have R3 : Aside (FramesR w3 (.slice q2 l2 c2) fs) := ⟨P2.it.frames.quiet (Keeps.ofBelow X3.it.1)⟩
        have eE : ev = .nilIface := X3.it.2.E
        subst eE
        clear X3 G P2
        go_wp2_with (first
          | (go_at_call 8; with_reducible refine (same_z HFS.it R3 P3).mono ?_; rintro e w4 ⟨rfl, P4⟩)
          | (go_at_call 9; with_reducible refine (held_a (n := 0) rfl P4).mono ?_; rintro e w5 ⟨rfl, P5⟩)
          | (go_at_call 10; with_reducible refine (wants_z (n := 12) rfl P5).mono ?_; rintro e w6 ⟨rfl, P6⟩)
          | (go_at_call 11; with_reducible refine (err_a rfl P6).mono ?_; rintro e w7 ⟨rfl, P7⟩)
          | fail)
        go_ret
        exact ⟨rfl, P7.it.k⟩
    · have hx : zs[k]? = some (zs[k]'(by rw [← hM.it]; exact hlt)) := List.getElem?_eq_getElem _
      generalize zs[k]'(by rw [← hM.it]; exact hlt) = z at hx
      obtain ⟨⟨v, t, f, s, l⟩, dv, ns⟩ := z
      obtain ⟨sb, so, cells, rfl, ⟨ecs, hok, hR, hbs, _, hnl⟩, _, hc⟩ := HAT.it k _ hx
      simp only [FrV.cells] at ecs hR hbs hnl
      subst ecs
      obtain ⟨dq, dc, rfl⟩ := hR.shape
      obtain ⟨N, hN⟩ : ∃ N, Aside (N = ns.length) := ⟨_, ⟨rfl⟩⟩
      rw [← hN.it] at hR hc
      have hs1 : (zs.take (k + 1)).map (fun z => z.ns.length) = (zs.take k).map (fun z => z.ns.length) ++ [ns.length] := by
        obtain ⟨h, e⟩ := List.getElem?_eq_some_iff.1 hx
        rw [List.take_add_one, List.getElem?_eq_getElem h, e]
        simp
      have HS1 : Aside (((zs.take (k + 1)).map (fun z => z.ns.length)).sum = ((zs.take k).map (fun z => z.ns.length)).sum + ns.length) := ⟨by rw [hs1]; simp⟩
      have B2 := P2.it.bel
      have e0 : wr.cell? ⟨sb, so + k * 6, none⟩ = some (.int .u8 v) := by have := hc 0 (by decide); rw [Nat.add_zero] at this; rw [B2.cell (World.block_lt_of_cell? w _ (this.trans rfl))]; exact this
      have e1 : wr.cell? ⟨sb, so + k * 6 + 1, none⟩ = some (.int .u8 t) := by have := hc 1 (by decide); rw [B2.cell (World.block_lt_of_cell? w _ (this.trans rfl))]; exact this
      have e2 : wr.cell? ⟨sb, so + k * 6 + 2, none⟩ = some (.int .u16 f) := by have := hc 2 (by decide); rw [B2.cell (World.block_lt_of_cell? w _ (this.trans rfl))]; exact this
      have e3 : wr.cell? ⟨sb, so + k * 6 + 3, none⟩ = some (.int .u32 s) := by have := hc 3 (by decide); rw [B2.cell (World.block_lt_of_cell? w _ (this.trans rfl))]; exact this
      have e4 : wr.cell? ⟨sb, so + k * 6 + 4, none⟩ = some (.int .u32 l) := by have := hc 4 (by decide); rw [B2.cell (World.block_lt_of_cell? w _ (this.trans rfl))]; exact this
      have e5 : wr.cell? ⟨sb, so + k * 6 + 5, none⟩ = some (.slice dq N dc) := by have := hc 5 (by decide); rw [B2.cell (World.block_lt_of_cell? w _ (this.trans rfl))]; exact this
      have i2 : (k : Int) < M := by omega
      have i3 : (0 : Int) ≤ k := by omega
      have i4 : (k : Int) ≤ 9223372036854775806 := by omega
      have OKH := Aside.mk hok
      have HR := Aside.mk hR
      have HBS := Aside.mk hbs
      have HNL := Aside.mk hnl
      simp only [HV.ok] at OKH
      clear hc hx HAT hs1 B2 hok hR hbs hnl
      go_upto_region 8 with fail
      clear e0 e1 e2 e3 e4 e5
      have P3 : Aside (Fy A w most (.slice q1 l1 c1) (.slice q2 l2 c2) fs wr.heap.size v t f s l (.slice dq N dc) ns (wr.alloc (fbox v t f s l (.slice dq N dc)))) := ⟨⟨P2.it.later (alloc_below _ _), Cells.new wr _ _, HR.it⟩⟩
      generalize wr.alloc (fbox v t f s l (.slice dq N dc)) = w3 at P3 ⊢
      generalize wr.heap.size = p at P3 ⊢
      clear P2
      have oF : (0 ≤ f ∧ f ≤ 65535) ∧ (0 ≤ s ∧ s ≤ 4294967295) ∧ (0 ≤ l ∧ l ≤ 4294967295) := ⟨OKH.it.2.2.1, OKH.it.2.2.2.1, OKH.it.2.2.2.2⟩
      have FO := Aside.mk oF
      have BY := Aside.mk (fy_bytes HNL.it oF P3)
      clear oF
      obtain ⟨y0, y1, y2, y3, y4, y5⟩ := box_cells P3.it.box
      by_cases hsz : (ns.length : Int) = szH t l
      · rw [show bE t l ns.length = 0 from if_pos hsz, show bO v t f s l ns = enc v t f s l ++ ns from if_pos hsz] at BY
        go_upto_region 9 with (first | (go_at_call 5; refine BY.it.mono ?_; rintro e w4 ⟨q4, n4, c4, ev, rfl, V4, R4, P4⟩; have e0 := V4.it.zero; subst e0) | fail)
        clear y0 y1 y2 y3 y4 y5 P3 BY V4
        obtain ⟨y0, y1, y2, y3, y4, _⟩ := box_cells P4.it.box
        have CK := Aside.mk (fy_check OKH.it.2.1 FO.it R4 P4)
        by_cases hck : chk v t f s l most = 0
        · rw [hck] at CK
          go_upto_region 10 with (first | (go_at_call 6; refine CK.it.mono ?_; rintro e w5 ⟨ev, rfl, V5, R5, P5⟩; have e0 := V5.it.zero; subst e0) | fail)
          have FR := Aside.mk (frOk_of (most := most) hck hsz)
          clear y0 y1 y2 y3 y4 P4 R4 CK V5 hck hsz
          have bnd : Aside ((flat fs).length + (enc v t f s l ++ ns).length ≤ 140737488355328) := ⟨by have := HL.it.1; have := TOT.it; have := HNL.it; rw [List.length_append, enc_length]; omega⟩
          go_upto_region 11 with (first | (refine wpList_appendO rfl _ _ rfl _ _ (flat fs) (enc v t f s l ++ ns) (owns_any P5.it.z.b) R5.it bnd.it rfl rfl ?_; intro q6 l6 c6 w6 O6 K6 B6) | fail)
          have P6 : Aside (OwnB w.heap.size w6 (.slice q6 l6 c6) (flat (fs ++ [(enc v t f s l, ns)]))) := ⟨by
            have := owns_rebase O6.it (fun b hb => (B6.it b hb).elim (fun h => owns_base P5.it.z.b b h) (fun h => Nat.le_trans P5.it.z.bel.size h))
            rwa [show flat fs ++ (enc v t f s l ++ ns) = flat (fs ++ [(enc v t f s l, ns)]) from by rw [flat_append]; simp [flat]] at this⟩
          obtain ⟨bel6, xs, ex, ow6, r6⟩ := P5.it.z.appB K6.it
          have box6 := P5.it.box.later K6.it (fun e => owns_ne P5.it.z.b P5.it.box (by decide) e)
          obtain ⟨y0, y1, y2, y3, y4, y5⟩ := box_cells box6
          have BEL := Aside.mk bel6
          have EX := Aside.mk ex
          have OW := Aside.mk ow6
          have RR := Aside.mk r6
          have OKF := Aside.mk P5.it.z.ok
          clear bel6 ex ow6 r6 box6 P5 R5 O6 K6 B6 bnd
          have K1 := Aside.mk ((Keeps.refl Nowhere w6).alloc (.cells #[.int .u8 v, .int .u8 t, .int .u16 f, .int .u32 s, .int .u32 l, .slice dq N dc] 31))
          have R1 : Aside (ReadsK 6 (w6.alloc (.cells #[.int .u8 v, .int .u8 t, .int .u16 f, .int .u32 s, .int .u32 l, .slice dq N dc] 31)) (.slice (some ⟨w6.heap.size, 0, none⟩) 1 1) 1 [.int .u8 v, .int .u8 t, .int .u16 f, .int .u32 s, .int .u32 l, .slice dq N dc]) := ⟨readsK_new w6 31 [.int .u8 v, .int .u8 t, .int .u16 f, .int .u32 s, .int .u32 l, .slice dq N dc]⟩
          have xl : Aside (xs.length ≤ k) := ⟨by have h1 := congrArg List.length EX.it; rw [List.length_map] at h1; have := HL.it.2; omega⟩
          have b8 := Aside.mk (show (xs.length + 1) * 40 ≤ 140737488355328 by have := xl.it; omega)
          have b9 := Aside.mk (show xs.length + 1 ≤ maxLen by have := xl.it; unfold maxLen; omega)
          go_wp2_with (first
            | (refine wpList_appendR rfl _ _ 22 rfl 31 _ 6 40 Tryd.underlying22 frameInfoB rfl (by decide) w6 K1.it w.heap.size _ xs.length _ OW.it _ 1 [.int .u8 v, .int .u8 t, .int .u16 f, .int .u32 s, .int .u32 l, .slice dq N dc] R1.it (by simp [Value.oneCell']) b8.it b9.it BEL.it.size rfl rfl ?_; rintro u w7 O7 K7 B7; obtain ⟨q7, l7, c7, e⟩ := owns_shapeK O7.it; subst e)
            | fail)
          go_roundw
          case rel =>
            refine ⟨k + 1, fs ++ [(enc v t f s l, ns)], q6, l6, c6, q7, l7, c7, rfl, rfl, by go_num, hlt, ⟨?_, ?_⟩, ⟨?_⟩⟩
            · have := HL.it.1
              have := HS1.it
              rw [flat_append, List.length_append]
              simp only [flat, List.append_nil, List.length_append, enc_length]
              omega
            · rw [List.length_append]
              have := HL.it.2
              simp only [List.length_cons, List.length_nil]
              omega
            · refine Fz.appW (x := ((enc v t f s l, ns), .slice dq N dc)) HS.it BEL.it P6.it OKF.it ⟨FR.it, enc_bytesB OKH.it.1 OKH.it.2.1 FO.it, HBS.it⟩ HR.it EX.it OW.it RR.it ?_ K1.it K7.it
              rw [frmL_enc]
              exact O7.it
          case measure => simp [intOf]; omega
        · go_wp2_with (first | (go_at_call 6; refine CK.it.mono ?_; rintro e w5 ⟨ev, rfl, V5, R5, P5⟩; obtain ⟨ea, e0⟩ := V5.it.pos hck; subst e0) | fail)
          go_roundw
          case rel => exact ⟨k + 1, fs, q1, l1, c1, q2, l2, c2, rfl, rfl, by go_num, hlt, ⟨by have := HL.it.1; have := HS1.it; omega, by have := HL.it.2; omega⟩, ⟨P5.it.z⟩⟩
          case measure => simp [intOf]; omega
      · rw [show bE t l ns.length = 15 from if_neg hsz] at BY
        go_wp2_with (first | (go_at_call 5; refine BY.it.mono ?_; rintro e w4 ⟨q4, n4, c4, ev, rfl, V4, R4, P4⟩; obtain ⟨ea, e0⟩ := V4.it.pos (by decide); subst e0) | fail)
        go_roundw
        case rel => exact ⟨k + 1, fs, q1, l1, c1, q2, l2, c2, rfl, rfl, by go_num, hlt, ⟨by have := HL.it.1; have := HS1.it; omega, by have := HL.it.2; omega⟩, ⟨P4.it.z⟩⟩
        case measure => simp [intOf]; omega
end Go.Proofs.YtfdfibajlggeeaaDoor

