/-
  RingKinds' world: a ring of numbers of 1's, a ring of their texts of 2's, texts (3's), what came out (4's and 5's), the op in its box
-/
import Derived.Test.YtfhafkojcaencaaDoorRingOint
import Derived.Test.YtfhafkojcaencaaDoorRingOstring
import Derived.Test.YtfhafkojcaencaaDoorRingGint
import Derived.Test.YtfhafkojcaencaaDoorRingGstring
import Derived.Test.YtfhafkojcaencaaDoorRingFixed
import Derived.Test.YtfhafkojcaencaaDoorSnA
import Derived.Test.YtfhafkojcaencaaDoorRdI
import Derived.Test.YtfhafkojcaencaaDoorShelf
import Derived.Lib.AppendIntMem
import Derived.Deep.Cut
import Derived.Deep.RegionHeldLaw
import Derived.Deep.DeepCutAuto
namespace Go.Proofs.YtfhafkojcaencaaDoor
open Go.RowKit Go.Sort

/-- a number's text -/
def ita (n : Int) : ByteArray := ⟨(Lib.itoa n).toArray⟩
/-- the numbers' texts, as values -/
def tx (zs : List Int) : List Value := zs.map fun n => .string (ita n)
theorem tx_length (zs : List Int) : (tx zs).length = zs.length := by simp [tx]
theorem tx_append (a b : List Int) : tx (a ++ b) = tx a ++ tx b := by simp [tx]
theorem tx_take (zs : List Int) (k : Nat) : tx (zs.take k) = (tx zs).take k := by simp [tx]
theorem tx_drop (zs : List Int) (k : Nat) : tx (zs.drop k) = (tx zs).drop k := by simp [tx]
theorem tx_one (zs : List Int) : ∀ u ∈ tx zs, u.oneCell' = true := by
  intro u hu
  obtain ⟨n, _, rfl⟩ := List.mem_map.1 hu
  rfl
def PowT (w : World) : Prop := Lib.TabIs Tryd.prog w "internal/strconv.uint64pow10" .u64 Lib.pow10Tab
def InI (zs : List Int) : Prop := ∀ z ∈ zs, -9223372036854775808 ≤ z ∧ z ≤ 9223372036854775807
section
variable {own own' : Nat → Nat} {w w' w0 : World} {xa xb tv xv yv : Value} {b cap : Nat} {la lb ts us vs : List Int} {fc : List Value} {I : Nat → Prop}
theorem ringI_sn {i : Nat} {x : Value} {items : List Value} (h : Rint.RingO own i w x cap items) (s : Sn I own w own' w') (hi : ¬ I i) : Rint.RingO own' i w' x cap items :=
  (h.later s.keeps (fun k (e : own k = i) _ e' => hi (e ▸ e'))).mono (fun k hk _ => (s.agree k hk.2).trans hk.1)
theorem ringS_sn {i : Nat} {x : Value} {items : List Value} (h : Rstring.RingO own i w x cap items) (s : Sn I own w own' w') (hi : ¬ I i) : Rstring.RingO own' i w' x cap items :=
  (h.later s.keeps (fun k (e : own k = i) _ e' => hi (e ▸ e'))).mono (fun k hk _ => (s.agree k hk.2).trans hk.1)
theorem rowO_sn {i : Nat} {e : TypeId} {v : Value} {xs : List Value} (h : RowO own i w e v xs) (s : Sn I own w own' w') (hi : ¬ I i) : RowO own' i w' e v xs := by
  refine ⟨h.1.later s.keeps (fun k hk e => hi (h.2 k hk ▸ e)), fun k hk => ?_⟩
  rcases h.1 with ⟨rfl, _⟩ | ⟨g, rfl, hc⟩
  · cases hk
  · obtain rfl : g = k := by simpa [Value.ownBlock] using hk
    exact (s.agree g hc.lt).trans (h.2 g hk)
theorem rowAt_shape {e : TypeId} {v : Value} {xs : List Value} (h : RowAt w e v xs) : ∃ q, v = .slice q xs.length xs.length := by
  rcases h with ⟨rfl, rfl⟩ | ⟨g, rfl, _⟩
  · exact ⟨_, rfl⟩
  · exact ⟨_, rfl⟩
/-- texts that are 3's -/
def TxO (own : Nat → Nat) (w : World) (v : Value) (ts : List Int) : Prop := w.ownsRow 0 9 1 v ts.length (tx ts) ∧ ∀ b, v.ownBlock = some b → own b = 3
theorem TxO.sn {v : Value} (h : TxO own w v ts) (s : Sn I own w own' w') (hi : ¬ I 3) : TxO own' w' v ts :=
  ⟨owns_later h.1 s.keeps (fun b hb e => hi (h.2 b hb ▸ e)), fun b hb => (s.agree b (owns_lt h.1 b hb)).trans (h.2 b hb)⟩
theorem TxO.nil (own : Nat → Nat) (w : World) : TxO own w (.slice none 0 0) [] := ⟨World.ownsRow_nil _ _ _ _, fun b hb => by simp [Value.ownBlock] at hb⟩
structure Rk (w0 : World) (xa xb : Value) (cap : Nat) (la lb : List Int) (tv : Value) (ts : List Int) (xv yv : Value) (us vs : List Int) (b : Nat) (fc : List Value) (own : Nat → Nat) (w : World) : Prop where
  ra : Rint.RingO own 1 w xa cap (iv la)
  rb : Rstring.RingO own 2 w xb cap (tx lb)
  txt : TxO own w tv ts
  x : RowO own 4 w 3 xv (iv us)
  y : RowO own 5 w 9 yv (tx vs)
  box : fc = [] ∨ CellsO own 0 w b 34 fc
  g : Ground w0.heap.size w0 own w
  pow : PowT w0
  inA : InI la
  inU : InI us
theorem below_growK (w : World) (k : Nat) (os : Array Obj) : Below w.heap.size w (grow (w.drewN k) os) := by
  refine ⟨rfl, rfl, rfl, ?_, fun b hb => ?_⟩
  · simp [grow]
  · show (w.heap ++ os)[b]? = w.heap[b]?
    exact Array.getElem?_append_left hb
theorem powT_later (h : PowT w) (hb : Below w.heap.size w w') : PowT w' := by
  have hg : Tryd.prog.globalNamed "internal/strconv.uint64pow10" = some 1 := by kernel_rfl
  unfold PowT Lib.TabIs at h ⊢
  rw [← h]
  simp only [World.var?, hg, Option.bind_some]
  rw [hb.block 1 ?_]
  have hc := World.var?_cell hg h 0
  have : w.cell? ⟨1, 0, none⟩ = some (.int .u64 1) := by rw [hc]; rfl
  exact World.block_lt_of_cell? w _ this
theorem Rk.quiet (h : Aside (Rk w0 xa xb cap la lb tv ts xv yv us vs b fc own w)) (k : Keeps Nowhere w w') : Aside (Rk w0 xa xb cap la lb tv ts xv yv us vs b fc own w') := by
  have s : Sn (fun _ => False) own w own w' := Sn.same k
  exact ⟨⟨ringI_sn h.it.ra s (fun x => x), ringS_sn h.it.rb s (fun x => x), h.it.txt.sn s (fun x => x), rowO_sn h.it.x s (fun x => x), rowO_sn h.it.y s (fun x => x), h.it.box.imp id (fun y => y.sn s (fun x => x)), h.it.g.sn s (fun x => x), h.it.pow, h.it.inA, h.it.inU⟩⟩
/-- all but ring a -/
theorem Rk.stepA {la' : List Int} (h : Rk w0 xa xb cap la lb tv ts xv yv us vs b fc own w) (s : Sn (fun k => k = 1) own w own' w') (hr : Rint.RingO own' 1 w' xa cap (iv la')) (hi : InI la') : Rk w0 xa xb cap la' lb tv ts xv yv us vs b fc own' w' :=
  ⟨hr, ringS_sn h.rb s (by decide), h.txt.sn s (by decide), rowO_sn h.x s (by decide), rowO_sn h.y s (by decide), h.box.imp id (fun y => y.sn s (by decide)), h.g.sn s (by decide), h.pow, hi, h.inU⟩
theorem Rk.stepB {lb' : List Int} (h : Rk w0 xa xb cap la lb tv ts xv yv us vs b fc own w) (s : Sn (fun k => k = 2) own w own' w') (hr : Rstring.RingO own' 2 w' xb cap (tx lb')) : Rk w0 xa xb cap la lb' tv ts xv yv us vs b fc own' w' :=
  ⟨ringI_sn h.ra s (by decide), hr, h.txt.sn s (by decide), rowO_sn h.x s (by decide), rowO_sn h.y s (by decide), h.box.imp id (fun y => y.sn s (by decide)), h.g.sn s (by decide), h.pow, h.inA, h.inU⟩
theorem rdI_reads {v : Value} {zs : List Int} (h : RdI w v zs) : ReadsOff Nowhere w v (iv zs) := by
  obtain ⟨sa, sc, rfl, h1, h2, h3⟩ := h
  refine ⟨sa, sc, by rw [iv_length], by rw [iv_length]; exact h1, fun j u hj => ?_⟩
  simp only [iv, List.getElem?_map, Option.map_eq_some_iff] at hj
  obtain ⟨z, hz, rfl⟩ := hj
  obtain ⟨_, sb, so, rfl, hc⟩ := h3 j z hz
  exact ⟨_, rfl, fun x => x, by rw [add_none]; exact hc⟩
theorem txO_reads (h : TxO own w tv ts) : ReadsOff (fun k => own k = 2) w tv (tx ts) := by
  obtain ⟨hl, a, c, e, h1, h2, h3, h4⟩ := owns_readsK h.1
  refine ⟨a, c, by rw [e, tx_length], by rw [tx_length]; exact h1, fun j u hj => ?_⟩
  obtain ⟨g, o, ha, hc⟩ := h4 j u hj
  subst ha
  refine ⟨_, rfl, fun e2 => ?_, by rw [add_none]; exact hc⟩
  have e3 : own g = 2 := e2
  have := h.2 g (by rw [e]; rfl)
  omega
theorem inI_take {zs : List Int} (h : InI zs) (k : Nat) : InI (zs.take k) := fun z hz => h z (List.mem_of_mem_take hz)
theorem inI_drop {zs : List Int} (h : InI zs) (k : Nat) : InI (zs.drop k) := fun z hz => h z (List.mem_of_mem_drop hz)
theorem inI_app {zs ys : List Int} (h : InI zs) (h' : InI ys) : InI (zs ++ ys) := fun z hz => (List.mem_append.1 hz).elim (h z) (h' z)
theorem rk_lenA (h : Aside (Rk w0 xa xb cap la lb tv ts xv yv us vs b fc own w)) : Calls Tryd.prog 18 #[xa] w fun e w' => e = .returned (.int .i64 la.length) ∧ w' = w := by
  have := Rint.lenV h.it.ra
  rw [iv_length] at this
  exact this
theorem rk_lenB (h : Aside (Rk w0 xa xb cap la lb tv ts xv yv us vs b fc own w)) : Calls Tryd.prog 19 #[xb] w fun e w' => e = .returned (.int .i64 lb.length) ∧ w' = w := by
  have := Rstring.lenV h.it.rb
  rw [tx_length] at this
  exact this
theorem rk_pushA (h : Aside (Rk w0 xa xb cap la lb tv ts xv yv us vs b fc own w)) (src : Value) (zs : List Int) (hz : Aside (RdI w0 src zs)) (hb : zs.length ≤ 1048576) :
    Calls Tryd.prog 8 #[xa, src] w fun e w' => ∃ own', e = .returned (.int .i64 (Nat.min zs.length (cap - la.length) : Nat)) ∧ Aside (Rk w0 xa xb cap (la ++ zs.take (cap - la.length)) lb tv ts xv yv us vs b fc own' w') := by
  have hr := h.it.g.reads (i := 1) (rdI_reads hz.it) rfl (by decide)
  have K := Rint.pushV h.it.ra src (iv zs) hr (by rw [iv_length]; omega) (iv_one zs)
  rw [iv_length, iv_length] at K
  refine K.mono ?_
  rintro e w' ⟨rfl, hR, hk⟩
  refine ⟨_, rfl, ⟨h.it.stepA (Sn.by hk 1) ?_ (inI_app h.it.inA (inI_take hz.it.bounds _))⟩⟩
  rw [← iv_append, ← iv_take]
  exact Rint.RingO.mine0 hR
theorem rk_pushB (h : Aside (Rk w0 xa xb cap la lb tv ts xv yv us vs b fc own w)) (hb : ts.length ≤ 1048576) :
    Calls Tryd.prog 9 #[xb, tv] w fun e w' => ∃ own', e = .returned (.int .i64 (Nat.min ts.length (cap - lb.length) : Nat)) ∧ Aside (Rk w0 xa xb cap la (lb ++ ts.take (cap - lb.length)) tv ts xv yv us vs b fc own' w') := by
  have K := Rstring.pushV h.it.rb tv (tx ts) (txO_reads h.it.txt) (by rw [tx_length]; omega) (tx_one ts)
  rw [tx_length, tx_length] at K
  refine K.mono ?_
  rintro e w' ⟨rfl, hR, hk⟩
  refine ⟨_, rfl, ⟨h.it.stepB (Sn.by hk 2) ?_⟩⟩
  rw [tx_append, tx_take]
  exact Rstring.RingO.mine0 hR
theorem rk_dropA (h : Aside (Rk w0 xa xb cap la lb tv ts xv yv us vs b fc own w)) (n : Int) :
    Calls Tryd.prog 12 #[xa, .int .i64 n] w fun e w' => ∃ own', e = .returned (.int .i64 (Nat.min n.toNat la.length : Nat)) ∧ Aside (Rk w0 xa xb cap (la.drop n.toNat) lb tv ts xv yv us vs b fc own' w') := by
  have K := Rint.dropV h.it.ra n
  rw [iv_length] at K
  refine K.mono ?_
  rintro e w' ⟨rfl, hR, hk⟩
  refine ⟨_, rfl, ⟨h.it.stepA (Sn.by hk 1) ?_ (inI_drop h.it.inA _)⟩⟩
  rw [← iv_drop]
  exact Rint.RingO.mine0 hR
theorem rk_dropB (h : Aside (Rk w0 xa xb cap la lb tv ts xv yv us vs b fc own w)) (n : Int) :
    Calls Tryd.prog 13 #[xb, .int .i64 n] w fun e w' => ∃ own', e = .returned (.int .i64 (Nat.min n.toNat lb.length : Nat)) ∧ Aside (Rk w0 xa xb cap la (lb.drop n.toNat) tv ts xv yv us vs b fc own' w') := by
  have K := Rstring.dropV h.it.rb n
  rw [tx_length] at K
  refine K.mono ?_
  rintro e w' ⟨rfl, hR, hk⟩
  refine ⟨_, rfl, ⟨h.it.stepB (Sn.by hk 2) ?_⟩⟩
  rw [tx_drop]
  exact Rstring.RingO.mine0 hR
theorem rk_peekA (h : Aside (Rk w0 xa xb cap la lb tv ts xv yv us vs b fc own w)) (n : Int) :
    Calls Tryd.prog 16 #[xa, .int .i64 n] w fun e w' => ∃ q own', e = .returned (.slice q (la.take n.toNat).length (la.take n.toNat).length) ∧ Aside (Rk w0 xa xb cap la lb tv ts (.slice q (la.take n.toNat).length (la.take n.toNat).length) yv (la.take n.toNat) vs b fc own' w') := by
  refine (Rint.peekV h.it.ra n).mono ?_
  rintro e w' ⟨s, rfl, hR, hn, hk⟩
  have sn : Sn (fun _ => False) own w (give own w.heap.size 4) w' := Sn.quiet hk 4
  rw [iv_take] at hR
  obtain ⟨q, rfl⟩ := rowAt_shape hR
  rw [iv_length] at hR hn ⊢
  exact ⟨q, _, rfl, ⟨⟨ringI_sn h.it.ra sn (fun x => x), ringS_sn h.it.rb sn (fun x => x), h.it.txt.sn sn (fun x => x), ⟨hR, fun k hk' => give_new (hn k hk')⟩, rowO_sn h.it.y sn (fun x => x), h.it.box.imp id (fun y => y.sn sn (fun x => x)), h.it.g.sn sn (fun x => x), h.it.pow, h.it.inA, inI_take h.it.inA _⟩⟩⟩
theorem rk_peekB (h : Aside (Rk w0 xa xb cap la lb tv ts xv yv us vs b fc own w)) (n : Int) :
    Calls Tryd.prog 17 #[xb, .int .i64 n] w fun e w' => ∃ q own', e = .returned (.slice q (lb.take n.toNat).length (lb.take n.toNat).length) ∧ Aside (Rk w0 xa xb cap la lb tv ts xv (.slice q (lb.take n.toNat).length (lb.take n.toNat).length) us (lb.take n.toNat) b fc own' w') := by
  refine (Rstring.peekV h.it.rb n).mono ?_
  rintro e w' ⟨s, rfl, hR, hn, hk⟩
  have sn : Sn (fun _ => False) own w (give own w.heap.size 5) w' := Sn.quiet hk 5
  rw [← tx_take] at hR
  obtain ⟨q, rfl⟩ := rowAt_shape hR
  rw [tx_length] at hR hn ⊢
  exact ⟨q, _, rfl, ⟨⟨ringI_sn h.it.ra sn (fun x => x), ringS_sn h.it.rb sn (fun x => x), h.it.txt.sn sn (fun x => x), rowO_sn h.it.x sn (fun x => x), ⟨hR, fun k hk' => give_new (hn k hk')⟩, h.it.box.imp id (fun y => y.sn sn (fun x => x)), h.it.g.sn sn (fun x => x), h.it.pow, h.it.inA, h.it.inU⟩⟩⟩
theorem rk_popA (h : Aside (Rk w0 xa xb cap la lb tv ts xv yv us vs b fc own w)) (n : Int) :
    Calls Tryd.prog 10 #[xa, .int .i64 n] w fun e w' => ∃ q own', e = .returned (.slice q (la.take n.toNat).length (la.take n.toNat).length) ∧ Aside (Rk w0 xa xb cap (la.drop n.toNat) lb tv ts (.slice q (la.take n.toNat).length (la.take n.toNat).length) yv (la.take n.toNat) vs b fc own' w') := by
  refine (Rint.popV h.it.ra n).mono ?_
  rintro e w' ⟨s, z, rfl, hR, hz, _, hn, hring, hk⟩
  have sn : Sn (fun k => k = 1) own w (give (give own w.heap.size 4) z 1) w' := ⟨fun k hk' => by rw [give_old (Nat.lt_of_lt_of_le hk' hz), give_old hk'], hk⟩
  have hring' : Rint.RingO (give (give own w.heap.size 4) z 1) 1 w' xa cap (iv (la.drop n.toNat)) := by rw [← iv_drop]; exact Rint.RingO.mine hring 4 hz
  rw [iv_take] at hR
  obtain ⟨q, rfl⟩ := rowAt_shape hR
  rw [iv_length] at hR hn ⊢
  refine ⟨q, _, rfl, ⟨⟨hring', ringS_sn h.it.rb sn (by decide), h.it.txt.sn sn (by decide), ⟨hR, fun k hk' => ?_⟩, rowO_sn h.it.y sn (by decide), h.it.box.imp id (fun y => y.sn sn (by decide)), h.it.g.sn sn (by decide), h.it.pow, inI_drop h.it.inA _, inI_take h.it.inA _⟩⟩⟩
  have := hn k hk'
  rw [give_old this.2, give_new this.1]
theorem rk_popB (h : Aside (Rk w0 xa xb cap la lb tv ts xv yv us vs b fc own w)) (n : Int) :
    Calls Tryd.prog 11 #[xb, .int .i64 n] w fun e w' => ∃ q own', e = .returned (.slice q (lb.take n.toNat).length (lb.take n.toNat).length) ∧ Aside (Rk w0 xa xb cap la (lb.drop n.toNat) tv ts xv (.slice q (lb.take n.toNat).length (lb.take n.toNat).length) us (lb.take n.toNat) b fc own' w') := by
  refine (Rstring.popV h.it.rb n).mono ?_
  rintro e w' ⟨s, z, rfl, hR, hz, _, hn, hring, hk⟩
  have sn : Sn (fun k => k = 2) own w (give (give own w.heap.size 5) z 2) w' := ⟨fun k hk' => by rw [give_old (Nat.lt_of_lt_of_le hk' hz), give_old hk'], hk⟩
  have hring' : Rstring.RingO (give (give own w.heap.size 5) z 2) 2 w' xb cap (tx (lb.drop n.toNat)) := by rw [tx_drop]; exact Rstring.RingO.mine hring 5 hz
  rw [← tx_take] at hR
  obtain ⟨q, rfl⟩ := rowAt_shape hR
  rw [tx_length] at hR hn ⊢
  refine ⟨q, _, rfl, ⟨⟨ringI_sn h.it.ra sn (by decide), hring', h.it.txt.sn sn (by decide), rowO_sn h.it.x sn (by decide), ⟨hR, fun k hk' => ?_⟩, h.it.box.imp id (fun y => y.sn sn (by decide)), h.it.g.sn sn (by decide), h.it.pow, h.it.inA, h.it.inU⟩⟩⟩
  have := hn k hk'
  rw [give_old this.2, give_new this.1]
/-- the number with i ahead of it -/
def atZ (zs : List Int) (i : Int) : Option Int := if i < 0 then none else zs[i.toNat]?
theorem rk_atA (h : Aside (Rk w0 xa xb cap la lb tv ts xv yv us vs b fc own w)) (i : Int) :
    Calls Tryd.prog 14 #[xa, .int .i64 i] w fun e w' => e = .returned (.tuple #[.int .i64 ((atZ la i).getD 0), .bool (atZ la i).isSome]) ∧ Aside (Rk w0 xa xb cap la lb tv ts xv yv us vs b fc own w') := by
  refine (Rint.atV h.it.ra i).mono ?_
  rintro e w' ⟨rfl, hk⟩
  refine ⟨?_, Rk.quiet h hk⟩
  have e : Rint.atI (iv la) i = (atZ la i).map (Value.int .i64) := by unfold Rint.atI atZ; split <;> simp [iv]
  rw [e]
  cases atZ la i <;> rfl
theorem rk_atB (h : Aside (Rk w0 xa xb cap la lb tv ts xv yv us vs b fc own w)) (i : Int) :
    Calls Tryd.prog 15 #[xb, .int .i64 i] w fun e w' => e = .returned (.tuple #[.string (((atZ lb i).map ita).getD ⟨#[]⟩), .bool (atZ lb i).isSome]) ∧ Aside (Rk w0 xa xb cap la lb tv ts xv yv us vs b fc own w') := by
  refine (Rstring.atV h.it.rb i).mono ?_
  rintro e w' ⟨rfl, hk⟩
  refine ⟨?_, Rk.quiet h hk⟩
  have e : Rstring.atI (tx lb) i = (atZ lb i).map (fun n => Value.string (ita n)) := by unfold Rstring.atI atZ; split <;> simp [tx]
  rw [e]
  cases atZ lb i <;> rfl
theorem atZ_in {zs : List Int} {i z : Int} (h : atZ zs i = some z) (hi : InI zs) : -9223372036854775808 ≤ z ∧ z ≤ 9223372036854775807 := by
  unfold atZ at h
  split at h
  · cases h
  · exact hi z (List.mem_of_getElem? h)
theorem rk_itoa (h : Aside (Rk w0 xa xb cap la lb tv ts xv yv us vs b fc own w)) (n : Int) (hn : -9223372036854775808 ≤ n ∧ n ≤ 9223372036854775807) : Calls Tryd.prog 7 #[.int .i64 n] w fun e w' => e = .returned (.string (ita n)) ∧ Aside (Rk w0 xa xb cap la lb tv ts xv yv us vs b fc own w') := by
  refine (Tryd.strconv_Itoa n hn.1 hn.2 w (powT_later h.it.pow h.it.g.bel)).mono ?_
  rintro e w' ⟨rfl, k, os, rfl⟩
  exact ⟨rfl, Rk.quiet h (Keeps.ofBelow (below_growK w k os))⟩
end
end Go.Proofs.YtfhafkojcaencaaDoor
