/-
  culvertlaw01.Apart: the memory of its lists; append of bytes with the block that it leaves.
-/
import Derived.Test.YteghehhifebhcaaDoorOwnB
import Derived.Test.YteghehhifebhcaaDoorONumBytes
import Derived.Test.YteghehhifebhcaaDoorBase
namespace Go.Proofs.YteghehhifebhcaaDoor
open Go.RowKit

def Mine (own : Nat → Nat) (i : Nat) (v : Value) : Prop := ∀ b, v.ownBlock = some b → own b = i
theorem OwnB.lt {B : Nat} {w : World} {v : Value} {ns : List Int} (h : OwnB B w v ns) : ∀ b, v.ownBlock = some b → b < w.heap.size := owns_lt h
theorem OwnB.base {B : Nat} {w : World} {v : Value} {ns : List Int} (h : OwnB B w v ns) : ∀ b, v.ownBlock = some b → B ≤ b := owns_base h
theorem OwnB.keeps {S : Nat → Prop} {B : Nat} {w w' : World} {v : Value} {ns : List Int} (h : OwnB B w v ns) (hk : Keeps S w w') (hn : ∀ b, v.ownBlock = some b → ¬ S b) : OwnB B w' v ns := owns_later h hk hn
/-- where it lies, if it has a byte -/
theorem OwnB.at {B : Nat} {w : World} {v : Value} {ns : List Int} (h : OwnB B w v ns) (hp : 0 < ns.length) : ∃ g c, v = .slice (some ⟨g, 0, none⟩) ns.length c ∧ ∀ j, j < ns.length → w.cell? ⟨g, j, none⟩ = some (.int .u8 (ns.getD j 0)) := by
  rcases id h.2 with ⟨_, h0⟩ | ⟨g, cap, cur, hv, _⟩
  · omega
  · refine ⟨g, cap, hv, fun j hj => ?_⟩
    have := h.cells (g := g) (by rw [hv]; rfl) j (.int .u8 (ns.getD j 0)) (by simp [bv, List.getD, hj])
    rw [add_none, Nat.zero_add] at this
    exact this
theorem bv_get (ns : List Int) (j : Nat) (hj : j < ns.length) : (bv ns)[j]? = some (.int .u8 (ns.getD j 0)) := by simp [bv, List.getD, hj]
theorem bv_set (ns : List Int) (k : Nat) (x : Int) : (bv ns).set k (.int .u8 x) = bv (ns.set k x) := by simp [bv, List.map_set]
theorem rd_newA (w : World) (ns : List Int) (n : Nat) (hn : ns.length = n) : Rd (w.alloc (.cells (ns.map (Value.int .u8)).toArray 5)) (.slice (some ⟨w.heap.size, 0, none⟩) n n) ns := by
  subst hn
  have := reads_mark Nowhere w 5 (bv ns) (0, 0) (fun x => x)
  rw [bv_length] at this
  exact ⟨this, fun l c e => by cases e⟩
theorem own_newA {B : Nat} (w : World) (ns : List Int) (n : Nat) (hn : ns.length = n) (hB : B ≤ w.heap.size) (hm : n ≤ maxLen) : OwnB B (w.alloc (.cells (ns.map (Value.int .u8)).toArray 5)) (.slice (some ⟨w.heap.size, 0, none⟩) n n) ns := by
  subst hn
  refine ⟨by rw [bv_length, Nat.mul_one], .inr ⟨w.heap.size, _, _, rfl, hB, heap_alloc_new w _, Nat.le_refl _, hm, by simp, ?_⟩⟩
  simp only [bv]
  rw [List.take_of_length_le (by simp)]
/-- the front of a row of one's own -/
theorem OwnB.front {B g l c : Nat} {w : World} {ns : List Int} (h : OwnB B w (.slice (some ⟨g, 0, none⟩) l c) ns) (k : Nat) (hk : k ≤ ns.length) : OwnB B w (.slice (some ⟨g, 0, none⟩) k c) (ns.take k) := by
  have hl : (ns.take k).length = k := by simp; omega
  rcases id h.2 with ⟨e, _⟩ | ⟨g', cap, cur, e, hb, hg, hn, hm, hs, ht⟩
  · cases e
  · injection e with e1 e2 e3
    injection e1 with e1
    injection e1 with e1
    subst e1 e2 e3
    refine ⟨by rw [bv_length, Nat.mul_one], .inr ⟨g, c, cur, by rw [hl], hb, hg, by omega, hm, hs, ?_⟩⟩
    rw [hl, Nat.mul_one]
    rw [Nat.mul_one] at ht
    have : bv (ns.take k) = (bv ns).take k := by simp [bv, List.map_take]
    rw [this, ← ht, List.take_take, Nat.min_eq_left hk]
def Span (W w' : World) (x : Value) : Prop := ∀ b, x.ownBlock = some b → W.heap.size ≤ b ∧ b < w'.heap.size
/-- a byte is written -/
theorem OwnB.set {B g l c : Nat} {w : World} {ns : List Int} (h : OwnB B w (.slice (some ⟨g, 0, none⟩) l c) ns) (k : Nat) (hk : k < ns.length) (x : Int) : OwnB B (w.setCell ⟨g, k, none⟩ (.int .u8 x)) (.slice (some ⟨g, 0, none⟩) l c) (ns.set k x) := by
  have := owns_setCell h k (by omega) (.int .u8 x)
  unfold OwnB
  rw [List.length_set, ← bv_set]
  exact this
theorem OwnB.frozen {B g l c : Nat} {w : World} {ns : List Int} (h : OwnB B w (.slice (some ⟨g, 0, none⟩) l c) ns) (k : Nat) : w.frozen? ⟨g, k, none⟩ = false := owns_frozen h k

/-- append, with the cells that stay -/
theorem run_appendP {P : Program} (t : TypeId) (ht : P.underlying t = some (.slice 5)) (hinfo : (P.info? 5).map (fun i => (i.zero, i.size, i.bytes)) = some (some (.int .u8 0), 1, 1)) (W : World) (B : Nat) (g sv : Value) (xs ys : List Int) (hown : OwnB B W g xs) (hr : Rd W sv ys) (hy : 0 < ys.length) (hb : xs.length + ys.length ≤ 140737488355328) (hB : B ≤ W.heap.size) :
    ∃ v' w', (∀ ty, (Builtin.append_ #[t, t] ty #[g, sv]).run P W = .ok v' w') ∧ OwnB B w' v' (xs ++ ys) ∧ Keeps (fun b => g.ownBlock = some b) W w' ∧ (∀ b, v'.ownBlock = some b → g.ownBlock = some b ∨ W.heap.size ≤ b) ∧
      ∀ b j u, g.ownBlock = some b → j < xs.length → W.cell? ⟨b, j, none⟩ = some u → w'.cell? ⟨b, j, none⟩ = some u := by
  obtain ⟨i, hi, hz0, hz1, hz2⟩ := info_parts hinfo
  have hown' : W.ownsRow B 5 1 g (bv xs).length (bv xs) := by rw [bv_length]; exact hown
  obtain ⟨v', w', run, o', g'⟩ := run_appendK (P := P) W B t 5 i _ 1 ht hi hz0 hz1 hz2 rfl g (bv xs) hown' sv (bv ys) hr.1 hr.2 (bv_one ys) (by rw [bv_length, bv_length]; omega) (by rw [bv_length, bv_length]; unfold maxLen; omega) hB
  have o2 : OwnB B w' v' (xs ++ ys) := by rw [← bv_append, bv_length] at o'; exact o'
  obtain ⟨a, c, hsv, hlc, hc⟩ := hr.1
  have hys : ∀ j u, (bv ys)[j]? = some u → ∃ x, a = some x ∧ W.cell? (x.add j) = some u := fun j u hj => by
    obtain ⟨x, hx, _, hce⟩ := hc j u hj
    exact ⟨x, hx, hce⟩
  obtain ⟨ad, rfl⟩ : ∃ ad, a = some ad := by
    obtain ⟨x, hx, _⟩ := hys 0 (.int .u8 (ys.getD 0 0)) (by simp [bv, List.getD, hy])
    exact ⟨x, hx⟩
  have hcells : ∀ j u, (bv ys)[j]? = some u → W.cell? (ad.add j) = some u := fun j u hj => by
    obtain ⟨x, hx, hce⟩ := hys j u hj
    cases hx
    exact hce
  subst hsv
  refine ⟨v', w', run, o2, grown_keeps g', ?_, ?_⟩
  · exact append_block W B t 0 5 i _ 1 1 ht hi hz0 hz1 hz2 rfl (by decide) g xs.length (bv xs) hown ad (bv ys).length c (bv ys) (by simp) hcells (bv_one ys) (by rw [bv_length]; omega) (by rw [bv_length]; unfold maxLen; omega) v' w' (run 0)
  · intro b j u hgb hj hcu
    rcases id hown.2 with ⟨rfl, h0⟩ | ⟨gb, cap, cur, rfl, hbg, hg, hnc, hcm, hcs, htake⟩
    · cases hgb
    · have hgb' : gb = b := by simpa [Value.ownBlock] using hgb
      subst hgb'
      by_cases hroom : xs.length + (bv ys).length ≤ cap
      · have hr := run_append_room (P := P) W t 0 5 i ht hi gb xs.length cap cur hg ad (bv ys).length c (bv ys) (by rw [hz1]; simp) hcells (bv_one ys) hroom (by rw [hz1, hcs]; omega)
        have hr := (run 0).symm.trans hr
        injection hr with e1 _
        subst e1
        have h1 := o2.cells (g := gb) rfl j (.int .u8 ((xs ++ ys).getD j 0)) (bv_get _ j (by simp; omega))
        have h2 := hown.cells (g := gb) rfl j (.int .u8 (xs.getD j 0)) (by simp [bv, List.getD, hj])
        rw [add_none, Nat.zero_add] at h1 h2
        rw [h1]
        rw [h2] at hcu
        rw [← hcu]
        simp [List.getD, List.getElem?_append_left hj]
      · have hr := run_append_grow (P := P) W t 0 5 i _ ht hi hz0 ⟨gb, 0, none⟩ xs.length cap (bv xs) (by rw [hz1, bv_length, Nat.mul_one]) (hown.cells (g := gb) rfl) ad (bv ys).length c (bv ys) (by rw [hz1]; simp) hcells (by omega) (by rw [bv_length]; omega) (growslice_fits (by omega) (by rw [hz2, bv_length]; omega))
        have hr := (run 0).symm.trans hr
        injection hr with _ e2
        rw [e2]
        have hlt : gb < W.heap.size := (Array.getElem?_eq_some_iff.1 hg).1
        have := (((Below.refl W.heap.size W).drew).alloc (Nat.le_refl _) (.cells ((bv xs).toArray ++ (bv ys).toArray ++ Builtin.zeroCells (Value.int .u8 0).cells (grownCap W (xs.length + (bv ys).length) cap 5 - (xs.length + (bv ys).length))) 5)).cell (p := ⟨gb, j, none⟩) hlt
        rw [← hcu]
        exact this
theorem run_appendL (W : World) (B : Nat) (g sv : Value) (xs ys : List Int) (hown : OwnB B W g xs) (hr : Rd W sv ys) (hy : 0 < ys.length) (hb : xs.length + ys.length ≤ 140737488355328) (hB : B ≤ W.heap.size) :
    ∃ v' w', (∀ ty, (Builtin.append_ #[36, 36] ty #[g, sv]).run Tryd.prog W = .ok v' w') ∧ OwnB B w' v' (xs ++ ys) ∧ Keeps (fun b => g.ownBlock = some b) W w' ∧ (∀ b, v'.ownBlock = some b → g.ownBlock = some b ∨ W.heap.size ≤ b) ∧
      ∀ b j u, g.ownBlock = some b → j < xs.length → W.cell? ⟨b, j, none⟩ = some u → w'.cell? ⟨b, j, none⟩ = some u :=
  run_appendP 36 Tryd.underlying36 u8info W B g sv xs ys hown hr hy hb hB
theorem wpList_appendL {W : World} {ops : Array Oper} {rest : List Oper} {o : Oper} {a : Act} {Q : Exit → Act → World → Prop} (hgd : o.guard = none) (s x : Operand)
    (ho : o.op = .call { callee := .builtin .append, args := #[s, x], argTypes := #[36, 36] }) (B : Nat) (v sv : Value) (ns ms : List Int) (hown : OwnB B W v ns) (hr : Rd W sv ms) (hy : 0 < ms.length)
    (hb : ns.length + ms.length ≤ 140737488355328) (hB : B ≤ W.heap.size) (hs : a.eval s = v) (hx : a.eval x = sv)
    (h : ∀ v' w', Aside (OwnB B w' v' (ns ++ ms)) → Aside (Keeps (fun b => v.ownBlock = some b) W w') → Aside (∀ b, v'.ownBlock = some b → v.ownBlock = some b ∨ W.heap.size ≤ b) →
      Aside (∀ b j u, v.ownBlock = some b → j < ns.length → W.cell? ⟨b, j, none⟩ = some u → w'.cell? ⟨b, j, none⟩ = some u) → wpList Tryd.prog ops Q rest (a.put o.dst v') w') : wpList Tryd.prog ops Q (o :: rest) a W := by
  obtain ⟨v', w', run, h1, h2, h3, h4⟩ := run_appendL W B v sv ns ms hown hr hy hb hB
  exact wpList_appendK hgd s x 36 ho v sv v' w' hs hx run (h v' w' ⟨h1⟩ ⟨h2⟩ ⟨h3⟩ ⟨h4⟩)
end Go.Proofs.YteghehhifebhcaaDoor
