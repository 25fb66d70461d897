/-
  culvertlaw03.Op: a script of them, with what the reach says of its length; Room
-/
import Derived.Test.YtnljgklmaljfjaaDoorFStep1
import Derived.Test.YtnljgklmaljfjaaDoorFStep2
import Derived.Test.YtnljgklmaljfjaaDoorFStep3
import Derived.Test.YtnljgklmaljfjaaDoorFStep4
import Derived.Test.YtnljgklmaljfjaaDoorFStep5
import Derived.Test.YtnljgklmaljfjaaDoorOpen
import Derived.Lib.SmallJoins
import Derived.SizedLaws
namespace Go.Proofs.YtnljgklmaljfjaaDoor
open Go.ChangeShapes Go.WideShapes Go.RowKit Go.Deep Fint

structure OpV3 where
  kind : Int
  v : Int
  w : Int
  out : List Int

def OpsAt3 (w : World) (v : Value) (ops : List OpV3) : Prop :=
  (∃ a cap, v = .slice a ops.length cap ∧ ops.length ≤ cap ∧ cap ≤ maxLen ∧ ∀ i op, ops[i]? = some op → ∃ b o s, a = some ⟨b, o, none⟩ ∧ w.cell? ⟨b, o + i * 4, none⟩ = some (.int .i64 op.kind) ∧ w.cell? ⟨b, o + i * 4 + 1, none⟩ = some (.int .i64 op.v) ∧
    w.cell? ⟨b, o + i * 4 + 2, none⟩ = some (.int .i64 op.w) ∧ w.cell? ⟨b, o + i * 4 + 3, none⟩ = some s ∧ ReadsOff Nowhere w s (iv op.out) ∧ op.out.length ≤ maxLen) ∧ ops.length ≤ 4398046511103

theorem ops_open3 {H : Type} {enc : TypeId × Value → H} {w : World} {base : Nat} {spare : Nat → Bool} {held : Bool} {fuel : Nat} {v : Value} {x : DataW H × List MemPlace}
    (h : DataW.trod enc Tryd.prog w base spare held fuel 24 [v] = some x) (hw : ∀ n ∈ x.1.weights Tryd.prog 24, n ≤ 140737488351232) : ∃ ops, OpsAt3 w v ops := by
  have hby : Tryd.prog.bytesOf 41 = 48 := by kernel_rfl
  obtain ⟨a, len, cap, hv, hl, hm, V, hV⟩ := open_rows Tryd.underlying24 Tryd.underlying41 (hone_of (by kernel_rfl)) (by kernel_rfl) h
  obtain rfl : v = .slice a len cap := by simpa using hv
  have hlen : len ≤ 4398046511103 := by
    rcases open_slice Tryd.underlying24 h with ⟨hv, _⟩ | ⟨a', len', cap', m, n, D, Pl, hv, hb, hl', hm', hmm, rfl, hx⟩
    · have e : (Value.slice a len cap) = .slice none 0 0 := by simpa using hv
      injection e with _ e _
      omega
    · have e : (Value.slice a len cap) = .slice (some a') len' cap' := by simpa using hv
      injection e with e1 e2 e3
      subst e1 e2 e3
      have hd : ∀ (xs ys : List (DataW H)), ((xs.length + ys.length) * 48) ∈ (DataW.slice xs ys).weights Tryd.prog 24 := by
        intro xs ys
        simp only [DataW.weights, Tryd.underlying24, hby]
        exact List.mem_cons_self ..
      have := hw _ (hd _ _)
      simp only [List.length_map, List.length_range] at this
      omega
  have hop : ∀ i, ∃ op : OpV3, i < len → ∃ b o s, a = some ⟨b, o, none⟩ ∧ w.cell? ⟨b, o + i * 4, none⟩ = some (.int .i64 op.kind) ∧ w.cell? ⟨b, o + i * 4 + 1, none⟩ = some (.int .i64 op.v) ∧
      w.cell? ⟨b, o + i * 4 + 2, none⟩ = some (.int .i64 op.w) ∧ w.cell? ⟨b, o + i * 4 + 3, none⟩ = some s ∧ ReadsOff Nowhere w s (iv op.out) ∧ op.out.length ≤ maxLen := by
    intro i
    by_cases hi : i < len
    · obtain ⟨⟨x, rfl, c0⟩, n0, y0, t0⟩ := hV i hi 0 _ rfl
      obtain ⟨⟨x1, e1, c1⟩, n1, y1, t1⟩ := hV i hi 1 _ rfl
      obtain ⟨⟨x2, e2, c2⟩, n2, y2, t2⟩ := hV i hi 2 _ rfl
      obtain ⟨⟨x3, e3, c3⟩, n3, y3, t3⟩ := hV i hi 3 _ rfl
      cases e1; cases e2; cases e3
      obtain ⟨⟨x4, e4, c4⟩, _⟩ := hV 0 (by omega) 0 _ rfl
      cases e4
      obtain ⟨b, o, sp⟩ := x
      obtain rfl : sp = none := by simpa [Addr.add] using World.cell?_spot c4
      obtain ⟨z0, v0, _⟩ := open_int1 Tryd.underlying3 t0
      obtain ⟨z1, v1, _⟩ := open_int1 Tryd.underlying3 t1
      obtain ⟨z2, v2, _⟩ := open_int1 Tryd.underlying3 t2
      obtain ⟨ns, hr, hn, _⟩ := open_ints1 Tryd.underlying39 Tryd.underlying3 (by kernel_rfl) t3
      rw [v0] at c0; rw [v1] at c1; rw [v2] at c2
      rw [add_none] at c0 c1 c2 c3
      exact ⟨⟨z0, z1, z2, ns⟩, fun _ => ⟨b, o, V i 3, rfl, c0, c1, c2, c3, hr, hn⟩⟩
    · exact ⟨⟨0, 0, 0, []⟩, fun h => absurd h hi⟩
  refine ⟨(List.range len).map fun i => Classical.choose (hop i), ⟨a, cap, by simp, by simpa using hl, hm, fun i op hi => ?_⟩, by simpa using hlen⟩
  simp only [List.getElem?_map, Option.map_eq_some_iff] at hi
  obtain ⟨j, hj, rfl⟩ := hi
  obtain ⟨hj1, hj2⟩ := List.getElem?_eq_some_iff.1 hj
  simp only [List.getElem_range] at hj2
  subst hj2
  exact Classical.choose_spec (hop i) (by simpa using hj1)

structure RoomZ where
  t : Int
  r : Int
def RoomAt (_ : World) (v : Value) (o : RoomZ) : Prop := v = .agg #[.int .i64 o.t, .int .i64 o.r] ∧ o.t ≤ 9223372036854775807 ∧ o.r ≤ 9223372036854775807
set_option maxRecDepth 100000 in
theorem room_open {H : Type} {enc : TypeId × Value → H} {r : Reach} {b0 : Nat} {w : World} {base : Nat} {spare : Nat → Bool} {held : Bool} {v : Value} {d : DataW H} {p : List MemPlace} (hv : Value.okWide Tryd.prog w r b0 23 v)
    (h : DataW.Trod enc Tryd.prog w base spare held 23 v d p) : ∃ o, RoomAt w v o := by
  obtain ⟨v0, v1, y0, y1, n, rfl, _, _, h0, h1⟩ := Go.Joins.open_agg2 (P := Tryd.prog) (t := 23) Tryd.underlying23 (by kernel_rfl) (by kernel_rfl) hv h
  obtain ⟨z0, rfl, w0⟩ := open_int1 Tryd.underlying3 h0
  obtain ⟨z1, rfl, w1⟩ := open_int1 Tryd.underlying3 h1
  exact ⟨⟨z0, z1⟩, rfl, (bounds_i64 w0).2, (bounds_i64 w1).2⟩

/-- what is held behind a call -/
def nextQ (rt rw : Nat) (q : Things) (o : OpV3) : Things := if o.kind = 1 then putQ rt rw q o.v o.w else if o.kind = 2 then q.tail else if o.kind = 5 then restQ o.out q else q
theorem next_len (rt rw : Nat) (q : Things) (o : OpV3) : (nextQ rt rw q o).length ≤ q.length + 1 := by
  unfold nextQ
  split
  · unfold putQ
    split
    · simp
    · omega
  · split
    · simp; omega
    · split
      · have := rest_le o.out q; omega
      · omega

theorem step_ok {A : Nat → Addr} {own : Nat → Nat} {i j p rt rw : Nat} {q : Things} {a : Option Addr} {c : Nat} (w00 w : World) (hs : Sents 129 codeVars A w00) (G : Ground w00.heap.size w00 own w) (h : Both own i j w p rt rw (.slice a q.length c) q) (hij : i ≠ j) (hi : i ≠ 0) (hj : j ≠ 0)
    (hb : q.length ≤ 4398046511103) (o : OpV3) (ws : Value) (hwr : ReadsOff (fun k => own k = i) w ws (iv o.out)) (hwn : o.out.length ≤ maxLen) :
    Calls Tryd.prog 21 #[.pointer (some ⟨p, 0, none⟩), .agg #[.int .i64 rt, .int .i64 rw, .slice a q.length c], .agg #[.int .i64 o.kind, .int .i64 o.v, .int .i64 o.w, ws]] w fun e w' => Stepped own i j w p rt rw (nextQ rt rw q o) e w' := by
  obtain ⟨kind, v, wt, out⟩ := o
  obtain ⟨wa, wc, hws, _⟩ := id hwr
  subst hws
  by_cases h1 : kind = 1
  · subst h1; exact step_put w00 w hs G h hij hi hj hb v wt _ _ _
  by_cases h2 : kind = 2
  · subst h2; exact step_get w h hij hi hj hb v wt _ _ _
  by_cases h3 : kind = 3
  · subst h3; exact step_head w h hi hj hb v wt _ _ _
  by_cases h4 : kind = 4
  · subst h4; exact step_len w h hi hj v wt _ _ _
  by_cases h5 : kind = 5
  · subst h5; exact step_remove w h hij hi hj hb v wt _ _ _ out hwr hwn
  by_cases h6 : kind = 6
  · subst h6; exact step_all w h hi hj hb v wt _ _ _
  by_cases h7 : kind = 7
  · subst h7; exact step_none w h hi hj v wt _ _ _
  have e : nextQ rt rw q ⟨kind, v, wt, out⟩ = q := by unfold nextQ; simp [h1, h2, h5]
  rw [e]
  exact step_other w h hi hj kind v wt _ _ _ ⟨h1, h2, h3, h4, h5, h6, h7⟩
end Go.Proofs.YtnljgklmaljfjaaDoor
