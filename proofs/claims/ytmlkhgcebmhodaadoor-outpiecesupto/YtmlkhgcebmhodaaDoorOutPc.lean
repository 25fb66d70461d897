/-
  OutPieces: its world, and the calls of its first loop
-/
import Derived.Test.YtmlkhgcebmhodaaDoorOutW
import Derived.Test.YtmlkhgcebmhodaaDoorCodedZ
import Derived.Test.YtmlkhgcebmhodaaDoorOutV
import Derived.Test.YtmlkhgcebmhodaaDoorOutQ
import Derived.Test.YtmlkhgcebmhodaaDoorOpenFr
import Derived.Test.YtmlkhgcebmhodaaDoorRdSeg
namespace Go.Proofs.YtmlkhgcebmhodaaDoor
open Go.RowKit

section
variable {own own' : Nat → Nat} {w w' w0 W : World} {p tot : Nat} {rs : List (List Int)} {A : Nat → Addr} {av ev x : Value} {bs : List Int} {es : List Nat} {I : Nat → Prop}

def nv (es : List Nat) : List Value := es.map fun (e : Nat) => Value.int .i64 (e : Int)
theorem nv_length (es : List Nat) : (nv es).length = es.length := by simp [nv]
/-- a row of ints of o's -/
def RowI (own : Nat → Nat) (o : Nat) (w : World) (v : Value) (es : List Nat) : Prop := w.ownsRow 0 3 1 v es.length (nv es) ∧ ∀ b, v.ownBlock = some b → own b = o
theorem RowI.sn {o : Nat} {v : Value} (h : RowI own o w v es) (s : Sn I own w own' w') (ho : ¬ I o) : RowI own' o w' v es :=
  ⟨owns_later h.1 s.keeps (fun b hb e => ho (h.2 b hb ▸ e)), fun b hb => (s.agree b (owns_lt h.1 b hb)).trans (h.2 b hb)⟩
theorem RowI.nil (own : Nat → Nat) (o : Nat) (w : World) : RowI own o w (.slice none 0 0) [] := ⟨World.ownsRow_nil _ _ _ _, fun b hb => by simp [Value.ownBlock] at hb⟩
theorem RowB.nil (own : Nat → Nat) (o : Nat) (w : World) : RowB own o w (.slice none 0 0) [] := ⟨World.ownsRow_nil _ _ _ _, fun b hb => by simp [Value.ownBlock] at hb⟩
theorem RowI.shape {o : Nat} {v : Value} (h : RowI own o w v es) : ∃ q c, v = .slice q es.length c := owns_val h.1
theorem RowI.app {o : Nat} {v v' : Value} {es' : List Nat} (h : RowI own o w v es) (o1 : w'.ownsRow 0 3 1 v' es'.length (nv es')) (k1 : Keeps (fun b => v.ownBlock = some b) w w') (b1 : ∀ b, v'.ownBlock = some b → v.ownBlock = some b ∨ w.heap.size ≤ b) :
    RowI (give own w.heap.size o) o w' v' es' ∧ Sn (fun k => k = o) own w (give own w.heap.size o) w' := by
  refine ⟨⟨o1, fun b hb => ?_⟩, ⟨fun _ hk => give_old hk, k1.mono (fun b hb _ => h.2 b hb)⟩⟩
  rcases b1 b hb with hx | hx
  · rw [give_old (owns_lt h.1 b hx)]; exact h.2 b hx
  · exact give_new hx
theorem RowI.at {o : Nat} {v : Value} (h : RowI own o w v es) : ∃ a c, v = .slice a es.length c ∧ es.length ≤ c ∧ ∀ (k e : Nat), es[k]? = some e → ∃ g f, a = some ⟨g, f, none⟩ ∧ w.cell? ⟨g, f + k, none⟩ = some (.int .i64 e) := by
  obtain ⟨_, a, c, hv, hl, _, _, hc⟩ := owns_readsK h.1
  exact ⟨a, c, hv, hl, fun k e hk => hc k _ (by simp [nv, hk])⟩

/-- the world of OutPieces: the buffer is 1's and 2's, all bytes 4's, the ends 5's -/
structure Pc (A : Nat → Addr) (w0 : World) (p : Nat) (rs : List (List Int)) (tot : Nat) (av : Value) (bs : List Int) (ev : Value) (es : List Nat) (own : Nat → Nat) (W : World) : Prop where
  buf : BufO own 1 2 W p rs tot
  all : RowB own 4 W av bs
  ends : RowI own 5 W ev es
  g : OnG A w0 own W
theorem Pc.sn (h : Pc A w0 p rs tot av bs ev es own W) (s : Sn I own W own' w') (h0 : ¬ I 0) (h1 : ¬ I 1) (h2 : ¬ I 2) (h4 : ¬ I 4) (h5 : ¬ I 5) : Pc A w0 p rs tot av bs ev es own' w' :=
  ⟨h.buf.sn s h1 h2, h.all.sn s h4, h.ends.sn s h5, h.g.sn s h0⟩
theorem Pc.sn0 (h : Pc A w0 p rs tot av bs ev es own W) (s : Sn (fun _ => False) own W own' w') : Pc A w0 p rs tot av bs ev es own' w' := h.sn s (fun x => x) (fun x => x) (fun x => x) (fun x => x) (fun x => x)
theorem Pc.quiet (h : Pc A w0 p rs tot av bs ev es own W) (k : Keeps Nowhere W w') : Pc A w0 p rs tot av bs ev es own w' := h.sn0 (Sn.same k)
theorem Pc.more {tot' : Nat} (h : Pc A w0 p rs tot av bs ev es own W) (ht : tot ≤ tot') : Pc A w0 p rs tot' av bs ev es own W := by
  refine { h with buf := ?_ }
  obtain ⟨qp, q, hb⟩ := h.buf
  exact ⟨qp, q, { hb with tot := Nat.le_trans hb.tot ht }⟩
/-- .. and what frame.Bytes has answered, 6's -/
structure Pd (A : Nat → Addr) (w0 : World) (p : Nat) (rs : List (List Int)) (tot : Nat) (av : Value) (bs : List Int) (ev : Value) (es : List Nat) (x : Value) (xs : List Int) (own : Nat → Nat) (W : World) : Prop where
  pc : Pc A w0 p rs tot av bs ev es own W
  x : RdO own 6 W x xs
variable {v t f s l : Int} {d sl : Value} {ns xs : List Int}
theorem copied_c (h : Aside (Pc A w0 p rs tot av bs ev es own W)) (hr : Rd w0 sl ns) (hn : ns.length ≤ 1048576) : Calls Tryd.prog 8 #[frm v t f s l sl] W fun e w' => ∃ d', e = .returned (frm v t f s l d') ∧ Aside (Pc A w0 p rs tot av bs ev es own w' ∧ Rd w' d' ns) := by
  refine (copied_any own 7 v t f s l sl ns (hr.later h.it.g.g.bel) (by omega)).mono ?_
  rintro e w' ⟨d', rfl, X⟩
  exact ⟨d', rfl, ⟨h.it.quiet X.it.2, X.it.1.rd⟩⟩
theorem copied_d (h : Aside (Pd A w0 p rs tot av bs ev es x xs own W)) (hr : Rd w0 sl ns) (hn : ns.length ≤ 1048576) : Calls Tryd.prog 8 #[frm v t f s l sl] W fun e w' => ∃ d', e = .returned (frm v t f s l d') ∧ Aside (Pd A w0 p rs tot av bs ev es x xs own w' ∧ Rd w' d' ns) := by
  refine (copied_any own 7 v t f s l sl ns (hr.later h.it.1.g.g.bel) (by omega)).mono ?_
  rintro e w' ⟨d', rfl, X⟩
  exact ⟨d', rfl, ⟨⟨h.it.1.quiet X.it.2, h.it.2.sn (I := fun _ => False) (Sn.same X.it.2) (fun x => x)⟩, X.it.1.rd⟩⟩
theorem bytes_c (h : Aside (Pc A w0 p rs tot av bs ev es own W ∧ Rd W d ns)) (hn : ns.length ≤ 1048576) (hf0 : 0 ≤ f) (hf1 : f ≤ 65535) (hs0 : 0 ≤ s) (hs1 : s ≤ 4294967295) (hl0 : 0 ≤ l) (hl1 : l ≤ 4294967295) :
    Calls Tryd.prog 7 #[frm v t f s l d] W fun e w' => ∃ x er own', e = .returned (.tuple #[x, er]) ∧ Aside (Coded A er (bE t l ns.length)) ∧ Aside (Pd A w0 p rs tot av bs ev es x (bO v t f s l ns) own' w') := by
  refine (bytes_any v t f s l d ns W h.it.1.g.sents h.it.2 (by omega) hf0 hf1 hs0 hs1 hl0 hl1).mono ?_
  rintro e w' ⟨x, er, rfl, hc, ho, hb⟩
  refine ⟨x, er, give own W.heap.size 6, rfl, hc, ⟨h.it.1.sn0 (Sn.quiet (Keeps.ofBelow hb) 6), OwnB.rd ho.it, fun g hg => ⟨owns_lt ho.it g hg, give_new (owns_base ho.it g hg)⟩⟩⟩
theorem bytes_ok (h : Aside (Pc A w0 p rs tot av bs ev es own W ∧ Rd W d ns)) (hn : ns.length ≤ 1048576) (hf0 : 0 ≤ f) (hf1 : f ≤ 65535) (hs0 : 0 ≤ s) (hs1 : s ≤ 4294967295) (hl0 : 0 ≤ l) (hl1 : l ≤ 4294967295) (hok : (ns.length : Int) = szH t l) :
    Calls Tryd.prog 7 #[frm v t f s l d] W fun e w' => ∃ x own', e = .returned (.tuple #[x, .nilIface]) ∧ Aside (Pd A w0 p rs tot av bs ev es x (enc v t f s l ++ ns) own' w') := by
  refine (bytes_c h hn hf0 hf1 hs0 hs1 hl0 hl1).mono ?_
  rintro e w' ⟨x, er, own', rfl, hc, X⟩
  have e1 : bE t l ns.length = 0 := if_pos hok
  have e2 : bO v t f s l ns = enc v t f s l ++ ns := if_pos hok
  rw [e1] at hc
  rw [e2] at X
  have e := hc.it.zero
  subst e
  exact ⟨x, own', rfl, X⟩
theorem bytes_bad (h : Aside (Pc A w0 p rs tot av bs ev es own W ∧ Rd W d ns)) (hn : ns.length ≤ 1048576) (hf0 : 0 ≤ f) (hf1 : f ≤ 65535) (hs0 : 0 ≤ s) (hs1 : s ≤ 4294967295) (hl0 : 0 ≤ l) (hl1 : l ≤ 4294967295) (hbad : ¬ (ns.length : Int) = szH t l) :
    Calls Tryd.prog 7 #[frm v t f s l d] W fun e w' => ∃ x a own', e = .returned (.tuple #[x, .iface 106 (.pointer (some a))]) ∧ Aside (Coded A (.iface 106 (.pointer (some a))) 15) ∧ Aside (Pd A w0 p rs tot av bs ev es x [] own' w') := by
  refine (bytes_c h hn hf0 hf1 hs0 hs1 hl0 hl1).mono ?_
  rintro e w' ⟨x, er, own', rfl, hc, X⟩
  have e1 : bE t l ns.length = 15 := if_neg hbad
  have e2 : bO v t f s l ns = [] := if_neg hbad
  rw [e1] at hc
  rw [e2] at X
  obtain ⟨a, rfl⟩ := hc.it.pos (by decide)
  exact ⟨x, a, own', rfl, hc, X⟩
theorem put_c_ok (h : Aside (Pd A w0 p rs tot av bs ev es x xs own W ∧ Rd W d ns)) (hn : ns.length ≤ 1048576) (hf0 : 0 ≤ f) (hf1 : f ≤ 65535) (hs0 : 0 ≤ s) (hs1 : s ≤ 4294967295) (hl0 : 0 ≤ l) (hl1 : l ≤ 4294967295) (hok : (ns.length : Int) = szH t l) (htot : tot ≤ 4398044413932) :
    Calls Tryd.prog 9 #[ptr p, frm v t f s l d] W fun e w' => ∃ own', e = .returned .nilIface ∧ Aside (Pd A w0 p (rs ++ [enc v t f s l ++ ns]) (tot + 1048588) av bs ev es x xs own' w') := by
  have hle := h.it.1.1.buf.len_le
  refine (putB_ok (A := A) (by decide) h.it.1.1.buf h.it.1.1.g.sents v t f s l d ns h.it.2 (by omega) hf0 hf1 hs0 hs1 hl0 hl1 hok (by omega) (by unfold maxI; omega)).mono ?_
  rintro e w' ⟨own', rfl, X⟩
  have sn := X.it.2
  have y : Pc A w0 p (rs ++ [enc v t f s l ++ ns]) (tot + 12 + ns.length) av bs ev es own' w' := ⟨X.it.1, h.it.1.1.all.sn sn (by decide), h.it.1.1.ends.sn sn (by decide), h.it.1.1.g.sn sn (by decide)⟩
  exact ⟨own', rfl, ⟨y.more (by omega), h.it.1.2.sn sn (by decide)⟩⟩
theorem put_c_bad (h : Aside (Pd A w0 p rs tot av bs ev es x xs own W ∧ Rd W d ns)) (hn : ns.length ≤ 1048576) (hf0 : 0 ≤ f) (hf1 : f ≤ 65535) (hs0 : 0 ≤ s) (hs1 : s ≤ 4294967295) (hl0 : 0 ≤ l) (hl1 : l ≤ 4294967295) (hbad : ¬ (ns.length : Int) = szH t l) :
    Calls Tryd.prog 9 #[ptr p, frm v t f s l d] W fun e w' => ∃ er, e = .returned er ∧ Aside (Coded A er 15) ∧ Aside (Pd A w0 p rs (tot + 1048588) av bs ev es x xs own w') := by
  refine (putB_bad (A := A) p h.it.1.1.g.sents v t f s l d ns h.it.2 (by omega) hf0 hf1 hs0 hs1 hl0 hl1 hbad).mono ?_
  rintro e w' ⟨er, rfl, X⟩
  exact ⟨er, rfl, ⟨X.it.1⟩, ⟨(h.it.1.1.quiet X.it.2).more (by omega), h.it.1.2.sn (I := fun _ => False) (Sn.same X.it.2) (fun x => x)⟩⟩
theorem code_d {er : Value} {k : Int} (hc : Aside (Coded A er k)) (h : Aside (Pd A w0 p rs tot av bs ev es x xs own W)) : Calls Tryd.prog 10 #[er] W fun e w' => e = .returned (.int .i64 k) ∧ w' = W := code_of (A := A) h.it.1.g.sents hc.it
/-- all grows -/
theorem Pd.grow {q : Option Addr} {l' c' : Nat} (h : Aside (Pd A w0 p rs tot av bs ev es x xs own W)) (o : Aside (w'.ownsRow 0 5 1 (.slice q l' c') (bs ++ xs).length (bv (bs ++ xs)))) (k : Aside (Keeps (fun b => av.ownBlock = some b) W w')) (b : Aside (∀ b, (Value.slice q l' c').ownBlock = some b → av.ownBlock = some b ∨ W.heap.size ≤ b)) :
    Aside (Pc A w0 p rs tot (.slice q l' c') (bs ++ xs) ev es (give own W.heap.size 4) w') := by
  obtain ⟨r, s⟩ := h.it.1.all.app o.it k.it b.it
  exact ⟨⟨h.it.1.buf.sn s (by decide) (by decide), r, h.it.1.ends.sn s (by decide), h.it.1.g.sn s (by decide)⟩⟩
/-- the ends grow -/
theorem Pc.endsGrow {v' : Value} {n : Nat} (h : Aside (Pc A w0 p rs tot av bs ev es own W)) (o : Aside (w'.ownsRow 0 3 1 v' (es.length + 1) (nv es ++ [.int .i64 n]))) (k : Aside (Keeps (fun b => ev.ownBlock = some b) W w')) (b : Aside (∀ b, v'.ownBlock = some b → ev.ownBlock = some b ∨ W.heap.size ≤ b)) :
    Aside (Pc A w0 p rs tot av bs v' (es ++ [n]) (give own W.heap.size 5) w') := by
  have o' : w'.ownsRow 0 3 1 v' (es ++ [n]).length (nv (es ++ [n])) := by simpa [nv] using o.it
  obtain ⟨r, s⟩ := h.it.ends.app o' k.it b.it
  exact ⟨⟨h.it.buf.sn s (by decide) (by decide), h.it.all.sn s (by decide), r, h.it.g.sn s (by decide)⟩⟩
theorem fr_read {sa : Option Addr} {M : Nat} {zs : List FrV} (hM : M = zs.length)
    (hat : ∀ i z, zs[i]? = some z → ∃ b o cs, sa = some ⟨b, o, none⟩ ∧ FrOk w0 1048576 z cs ∧ cs.length = 6 ∧ ∀ j, j < 6 → w0.cell? ⟨b, o + i * 6 + j, none⟩ = cs[j]?) (k : Nat) (hk : k < M) :
    ∃ (z : FrV) (sb so : Nat), sa = some ⟨sb, so, none⟩ ∧ z.h.ok ∧ Rd w0 z.sl z.ns ∧ z.ns.length ≤ 1048576 ∧ ∀ own W, OnG A w0 own W → W.cell? ⟨sb, so + k * 6, none⟩ = some (.int .u8 z.h.v) ∧ W.cell? ⟨sb, so + k * 6 + 1, none⟩ = some (.int .u8 z.h.t) ∧ W.cell? ⟨sb, so + k * 6 + 2, none⟩ = some (.int .u16 z.h.f) ∧
      W.cell? ⟨sb, so + k * 6 + 3, none⟩ = some (.int .u32 z.h.s) ∧ W.cell? ⟨sb, so + k * 6 + 4, none⟩ = some (.int .u32 z.h.l) ∧ W.cell? ⟨sb, so + k * 6 + 5, none⟩ = some z.sl := by
  subst hM
  obtain ⟨sb, so, cs, rfl, hok, hl, hc⟩ := hat k zs[k] (List.getElem?_eq_getElem hk)
  have e := hok.1
  subst e
  have h0 := hc 0 (by decide)
  have h1 := hc 1 (by decide)
  have h2 := hc 2 (by decide)
  have h3 := hc 3 (by decide)
  have h4 := hc 4 (by decide)
  have h5 := hc 5 (by decide)
  exact ⟨_, sb, so, rfl, hok.2.1, hok.2.2.1, hok.2.2.2.2.2, fun own w g => ⟨g.g.cell rfl h0, g.g.cell rfl h1, g.g.cell rfl h2, g.g.cell rfl h3, g.g.cell rfl h4, g.g.cell rfl h5⟩⟩
/-- an argument's ints -/
theorem int_read {ta : Option Addr} {ts : List Int} {N : Nat} (hta : ∀ i, i < N → ∃ x, ta = some x ∧ w0.cell? (x.add i) = some (.int .i64 (ts.getD i 0))) (k : Nat) (hk : k < N) :
    ∃ (n : Int) (tb to : Nat), ta = some ⟨tb, to, none⟩ ∧ ∀ own W, OnG A w0 own W → W.cell? ⟨tb, to + k, none⟩ = some (.int .i64 n) := by
  obtain ⟨x, rfl, hc⟩ := hta k hk
  obtain ⟨tb, to, sp⟩ := x
  obtain rfl : sp = none := by
    obtain ⟨y, e, h0⟩ := hta 0 (by omega)
    injection e with e
    subst e
    simpa [Addr.add] using World.cell?_spot h0
  refine ⟨ts.getD k 0, tb, to, rfl, fun own W g => ?_⟩
  rw [add_none] at hc
  exact g.g.cell rfl hc
/-- a Take, in OutPieces' world -/
theorem take_r {t T S : Nat} {n : Int} (hbs : bs = rs.flatten) (ht : t ≤ bs.length) (hT : T ≤ 4398046511103) (hS : S = min n.toNat (bs.length - t)) (h : Aside (Pc A w0 p (leftN rs t) T av bs ev es own W)) :
    Calls Tryd.prog 11 #[ptr p, .int .i64 n] W fun e w' => ∃ xa xc own', e = .returned (.slice xa S xc) ∧ Aside (Pc A w0 p (leftN rs (t + S)) T av bs ev es own' w' ∧ RowB own' 7 w' (.slice xa S xc) ((bs.drop t).take S)) := by
  have hfl : (leftN rs t).flatten = bs.drop t := by rw [leftN_flatten, hbs]
  have e1 : (leftN rs t).flatten.take n.toNat = (bs.drop t).take S := by
    rw [hfl, hS]
    rcases Nat.le_total n.toNat (bs.length - t) with hle | hle
    · rw [Nat.min_eq_left hle]
    · rw [Nat.min_eq_right hle, List.take_of_length_le (by rw [List.length_drop]; exact hle), List.take_of_length_le (by rw [List.length_drop]; exact Nat.le_refl _)]
  have e2 : leftN (leftN rs t) n.toNat = leftN rs (t + S) := by
    rw [leftN_leftN]
    rcases Nat.le_total n.toNat (bs.length - t) with hle | hle
    · rw [hS, Nat.min_eq_left hle]
    · rw [hS, Nat.min_eq_right hle, leftN_all rs (t + n.toNat) (by rw [← hbs]; omega), leftN_all rs (t + (bs.length - t)) (by rw [← hbs]; omega)]
  refine (takeB (o := 7) (by decide) (by decide) (by decide) h.it.buf hT n).mono ?_
  rintro e w' ⟨x, own', rfl, X⟩
  have r := X.it.row
  rw [e1] at r
  have b := X.it.buf
  rw [e2] at b
  obtain ⟨xa, xc, hx⟩ := r.shape
  have hl : ((bs.drop t).take S).length = S := by rw [List.length_take, List.length_drop]; omega
  rw [hl] at hx
  subst hx
  have sn := X.it.sn
  exact ⟨xa, xc, own', rfl, ⟨⟨b, h.it.all.sn sn (by decide), h.it.ends.sn sn (by decide), h.it.g.sn sn (by decide)⟩, r⟩⟩
theorem take_c {t T S : Nat} {n : Int} (hbs : bs = rs.flatten) (ht : t ≤ bs.length) (hT : T ≤ 4398046511103) (hS : S = min n.toNat (bs.length - t)) (h : Aside (Pc A w0 p (leftN rs t) T av bs ev es own W)) :
    Calls Tryd.prog 11 #[ptr p, .int .i64 n] W fun e w' => ∃ xa xc own', e = .returned (.slice xa S xc) ∧ Aside (Pc A w0 p (leftN rs (t + S)) T av bs ev es own' w' ∧ Holds .u8 w' (.slice xa S xc) ((bs.drop t).take S)) := by
  refine (take_r hbs ht hT hS h).mono ?_
  rintro e w' ⟨xa, xc, own', rfl, X⟩
  exact ⟨xa, xc, own', rfl, ⟨X.it.1, X.it.2.rd.holds⟩⟩
/-- what was taken, as a string -/
theorem Pc.got {g : Value} {S : List Int} (h : Aside (Pc A w0 p rs tot av bs ev es own W ∧ Holds .u8 W g S)) (m : Nat) : (convert 27 9 g).run Tryd.prog (W.drewN m) = .ok (.string (strOf S)) (W.drewN m) :=
  run_bytesStr (P := Tryd.prog) (W.drewN m) 27 9 5 _ _ Tryd.underlying27 Tryd.underlying5 Tryd.underlying9 (h.it.2.later ((Keeps.refl Nowhere W).drewN m).bel)
/-- a part of all the bytes, as a string -/
theorem Pc.part {a : Option Addr} {L c t S : Nat} (h : Aside (Pc A w0 p rs tot (.slice a L c) bs ev es own W)) (hle : t + S ≤ bs.length) (m : Nat) :
    (convert 27 9 (.slice (if c = t then a else a.map (·.add t)) S (c - t))).run Tryd.prog (W.drewN m) = .ok (.string (strOf ((bs.drop t).take S))) (W.drewN m) := by
  have r : RdS Nowhere (W.drewN m) (.slice a L c) bs := (h.it.quiet ((Keeps.refl Nowhere W).drewN m)).all.rd
  exact run_bytesStr (P := Tryd.prog) (W.drewN m) 27 9 5 _ _ Tryd.underlying27 Tryd.underlying5 Tryd.underlying9 (r.seg hle).rd.holds
theorem Pc.endAt {a : Option Addr} {R c : Nat} (h : Aside (Pc A w0 p rs tot av bs (.slice a R c) es own W)) (k e : Nat) (hk : es[k]? = some e) : ∃ g f, a = some ⟨g, f, none⟩ ∧ W.cell? ⟨g, f + k, none⟩ = some (.int .i64 e) := by
  obtain ⟨a0, c0, e0, _, hc⟩ := h.it.ends.at
  injection e0 with e1 _ _
  subst e1
  exact hc k e hk
theorem len_c (h : Aside (Pc A w0 p rs tot av bs ev es own W)) : Calls Tryd.prog 12 #[ptr p] W fun e w' => e = .returned (.int .i64 rs.flatten.length) ∧ Aside (Pc A w0 p rs tot av bs ev es own w') := by
  refine (lenB h.it.buf).mono ?_
  rintro e w' ⟨rfl, k⟩
  exact ⟨rfl, ⟨h.it.quiet k.it⟩⟩
theorem frames_c (h : Aside (Pc A w0 p rs tot av bs ev es own W)) : Calls Tryd.prog 13 #[ptr p] W fun e w' => e = .returned (.int .i64 rs.length) ∧ Aside (Pc A w0 p rs tot av bs ev es own w') := by
  refine (framesB h.it.buf).mono ?_
  rintro e w' ⟨rfl, k⟩
  exact ⟨rfl, ⟨h.it.quiet k.it⟩⟩
theorem clear_c (h : Aside (Pc A w0 p rs tot av bs ev es own W)) : Calls Tryd.prog 14 #[ptr p] W fun e w' => ∃ own', e = .returned (.int .i64 rs.flatten.length) ∧ Aside (Pc A w0 p [] tot av bs ev es own' w') := by
  refine (clearB (by decide) h.it.buf).mono ?_
  rintro e w' ⟨own', rfl, X⟩
  have sn := X.it.2
  exact ⟨own', rfl, ⟨X.it.1, h.it.all.sn sn (by decide), h.it.ends.sn sn (by decide), h.it.g.sn sn (by decide)⟩⟩
/-- .. and what was taken last, 7's -/
structure Pf (A : Nat → Addr) (w0 : World) (p : Nat) (tot : Nat) (av : Value) (bs : List Int) (ev : Value) (es : List Nat) (x : Value) (xs : List Int) (own : Nat → Nat) (W : World) : Prop where
  pc : Pc A w0 p [] tot av bs ev es own W
  x : RowB own 7 W x xs
theorem Pf.quiet (h : Pf A w0 p tot av bs ev es x xs own W) (k : Keeps Nowhere W w') : Pf A w0 p tot av bs ev es x xs own w' := ⟨h.pc.quiet k, h.x.sn (I := fun _ => False) (Sn.same k) (fun x => x)⟩
theorem len_0 (h : Aside (Pf A w0 p tot av bs ev es x xs own W)) : Calls Tryd.prog 12 #[ptr p] W fun e w' => e = .returned (.int .i64 0) ∧ Aside (Pf A w0 p tot av bs ev es x xs own w') := by
  refine (lenB h.it.pc.buf).mono ?_
  rintro e w' ⟨rfl, k⟩
  exact ⟨rfl, ⟨h.it.quiet k.it⟩⟩
theorem frames_0 (h : Aside (Pf A w0 p tot av bs ev es x xs own W)) : Calls Tryd.prog 13 #[ptr p] W fun e w' => e = .returned (.int .i64 0) ∧ Aside (Pf A w0 p tot av bs ev es x xs own w') := by
  refine (framesB h.it.pc.buf).mono ?_
  rintro e w' ⟨rfl, k⟩
  exact ⟨rfl, ⟨h.it.quiet k.it⟩⟩
theorem clear_0 (h : Aside (Pf A w0 p tot av bs ev es x xs own W)) : Calls Tryd.prog 14 #[ptr p] W fun e w' => ∃ own', e = .returned (.int .i64 0) ∧ Aside (Pf A w0 p tot av bs ev es x xs own' w') := by
  refine (clearB (by decide) h.it.pc.buf).mono ?_
  rintro e w' ⟨own', rfl, X⟩
  have sn := X.it.2
  exact ⟨own', rfl, ⟨⟨X.it.1, h.it.pc.all.sn sn (by decide), h.it.pc.ends.sn sn (by decide), h.it.pc.g.sn sn (by decide)⟩, h.it.x.sn sn (by decide)⟩⟩
theorem Pf.strs {a : Option Addr} {L c t S : Nat} (h : Aside (Pf A w0 p tot (.slice a L c) bs ev es x ((bs.drop t).take S) own W)) (hle : t + S ≤ bs.length) :
    (convert 27 9 x).run Tryd.prog W = .ok (.string (strOf ((bs.drop t).take S))) W ∧ (convert 27 9 (.slice (if c = t then a else a.map (·.add t)) S (c - t))).run Tryd.prog W = .ok (.string (strOf ((bs.drop t).take S))) W :=
  ⟨Pc.got ⟨h.it.pc, h.it.x.rd.holds⟩ 0, Pc.part ⟨h.it.pc⟩ hle 0⟩
end
end Go.Proofs.YtmlkhgcebmhodaaDoor
