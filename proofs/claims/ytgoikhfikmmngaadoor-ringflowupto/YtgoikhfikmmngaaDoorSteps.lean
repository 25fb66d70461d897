/-
  copy, clear and make on rows of a call's own: as steps of a walk. Of whatever program.
-/
import Derived.Test.YtgoikhfikmmngaaDoorOwn
import Derived.Lib.SliceRun
namespace Go.Proofs.YtgoikhfikmmngaaDoor
open Go.RowKit

theorem add_at (g o j : Nat) : (⟨g, o, none⟩ : Addr).add j = ⟨g, o + j, none⟩ := by unfold Addr.add; split <;> simp_all

/-- copy(d, s): into the row of block g from off on, where anything is copied at all -/
theorem run_copyK {P : Program} (w : World) (dT sT elem : TypeId) (hu : P.underlying dT = some (.slice elem)) (hsz : (P.info? elem).map (·.size) = some 1)
    (dp sp : Option Addr) (dLen dCap sLen sCap : Nat) (g off : Nat) (cur : List Value) (t : TypeId) (hg : Cells w g t cur) (cs : List Value) (hn : cs.length = Nat.min sLen dLen)
    (hpos : 0 < cs.length → dp = some ⟨g, off, none⟩ ∧ ∃ ad, sp = some ad ∧ ∀ j v, cs[j]? = some v → w.cell? (ad.add j) = some v)
    (hfit : off + cs.length ≤ cur.length) (h1 : ∀ v ∈ cs, v.oneCell' = true) :
    ∃ w', (∀ ty, (Builtin.copy_ #[dT, sT] ty #[.slice dp dLen dCap, .slice sp sLen sCap]).run P w = .ok (.int .i64 cs.length) w') ∧ Cells w' g t (splice cur off cs) ∧ Keeps (fun k => k = g) w w' := by
  by_cases h0 : cs.length = 0
  · obtain rfl : cs = [] := List.eq_nil_of_length_eq_zero h0
    refine ⟨w, fun ty => run_copy_none (P := P) w dT sT ty elem dp sp dLen dCap sLen sCap hu hsz (by simpa using hn.symm), by simpa [splice] using hg, Keeps.refl _ _⟩
  · obtain ⟨rfl, ad, rfl, hsrc⟩ := hpos (by omega)
    refine ⟨_, fun ty => run_copy_row (P := P) w dT sT ty elem g off dLen dCap ad sLen sCap cur.toArray t cs hu hsz hg hn hsrc (by simpa using hfit) h1, ?_, (Keeps.refl _ _).setRow g _ (fun _ => rfl)⟩
    have := hg.set (splice cur off cs)
    simpa [splice] using this

theorem step_copyK {P : Program} {ops : Array Oper} {o : Oper} {a : Act} {w : World} {K : Act → World → Prop} {Q : Exit → Act → World → Prop} {E : Prop} (tmp : Tmp) (hdst : o.dst = some tmp) (hgd : o.guard = none) (d s : Operand) (dT sT : TypeId)
    (ho : o.op = .call { callee := .builtin .copy, args := #[d, s], argTypes := #[dT, sT] }) (elem : TypeId) (hu : P.underlying dT = some (.slice elem)) (hsz : (P.info? elem).map (·.size) = some 1)
    (dp sp : Option Addr) (dLen dCap sLen sCap : Nat) (hd : a.eval d = .slice dp dLen dCap) (hs : a.eval s = .slice sp sLen sCap)
    (g off : Nat) (cur : List Value) (t : TypeId) (hg : Cells w g t cur) (cs : List Value) (hn : cs.length = Nat.min sLen dLen)
    (hpos : 0 < cs.length → dp = some ⟨g, off, none⟩ ∧ ∃ ad, sp = some ad ∧ ∀ j v, cs[j]? = some v → w.cell? (ad.add j) = some v)
    (k : Nat) (hk : cs.length = k) (hfit : off + cs.length ≤ cur.length) (h1 : ∀ v ∈ cs, v.oneCell' = true)
    (h : ∀ w', Hid (Cells w' g t (splice cur off cs)) → Hid (Keeps (fun k => k = g) w w') → K (a.put (some tmp) (.int .i64 k)) w') :
    if Region.wanted o (yielded ops a.tmps) = true then Oper.wp P o a w K Q else E := by
  subst hk
  have hw : Region.wanted o (yielded ops a.tmps) = true := by simp [Region.wanted, hgd]
  rw [if_pos hw]
  obtain ⟨w', hrun, h2, h3⟩ := run_copyK (P := P) w dT sT elem hu hsz dp sp dLen dCap sLen sCap g off cur t hg cs hn hpos hfit h1
  unfold Oper.wp
  simp [execOp, ho, resolve, invoke, builtin, hd, hs, hrun, Result.andThen]
  rw [← hdst] at h
  exact h w' h2 h3

theorem wpList_copyK {P : Program} {w : World} {ops : Array Oper} {rest : List Oper} {o : Oper} {a : Act} {Q : Exit → Act → World → Prop} (hgd : o.guard = none) (d s : Operand) (dT sT : TypeId)
    (ho : o.op = .call { callee := .builtin .copy, args := #[d, s], argTypes := #[dT, sT] }) (elem : TypeId) (hu : P.underlying dT = some (.slice elem)) (hsz : (P.info? elem).map (·.size) = some 1)
    (dp sp : Option Addr) (dLen dCap sLen sCap : Nat) (hd : a.eval d = .slice dp dLen dCap) (hs : a.eval s = .slice sp sLen sCap)
    (g off : Nat) (cur : List Value) (t : TypeId) (hg : Cells w g t cur) (cs : List Value) (hn : cs.length = Nat.min sLen dLen)
    (hpos : 0 < cs.length → dp = some ⟨g, off, none⟩ ∧ ∃ ad, sp = some ad ∧ ∀ j v, cs[j]? = some v → w.cell? (ad.add j) = some v)
    (k : Nat) (hk : cs.length = k) (hfit : off + cs.length ≤ cur.length) (h1 : ∀ v ∈ cs, v.oneCell' = true)
    (h : ∀ w', Hid (Cells w' g t (splice cur off cs)) → Hid (Keeps (fun k => k = g) w w') → wpList P ops Q rest (a.put o.dst (.int .i64 k)) w') :
    wpList P ops Q (o :: rest) a w := by
  subst hk
  refine wpList_plain hgd fun K hK => ?_
  obtain ⟨w', hrun, h2, h3⟩ := run_copyK (P := P) w dT sT elem hu hsz dp sp dLen dCap sLen sCap g off cur t hg cs hn hpos hfit h1
  unfold Oper.wp
  simp [execOp, ho, resolve, invoke, builtin, hd, hs, hrun, Result.andThen]
  exact hK _ _ (h w' h2 h3)

theorem splice_splice {α : Type} (L a b : List α) (o n : Nat) (hn : n = o + a.length) (h : o + a.length ≤ L.length) : splice (splice L o a) n b = splice L o (a ++ b) := by
  subst hn
  have hl : (splice L o a).length = L.length := length_splice L o a h
  apply List.ext_getElem?
  intro j
  rw [splice_get _ _ _ (by rw [hl]; exact h), splice_get _ _ _ (by omega), splice_get _ _ _ (by omega)]
  simp only [List.length_append]
  by_cases h1 : j < o
  · simp [h1, show j < o + a.length by omega]
  · by_cases h2 : j < o + a.length
    · simp [h1, h2, show j < o + (a.length + b.length) by omega, List.getElem?_append_left (show j - o < a.length by omega)]
    · by_cases h3 : j < o + (a.length + b.length)
      · simp [h1, h2, h3, show j < o + a.length + b.length by omega, List.getElem?_append_right (show a.length ≤ j - o by omega), Nat.sub_sub]
      · simp [h1, h2, h3, show ¬ j < o + a.length + b.length by omega]

/-- clear(s) -/
theorem run_clearK {P : Program} (w : World) (t e : TypeId) (z : Value) (ht : P.underlying t = some (.slice e)) (hv : ∀ w, (zeroValue e).run P w = .ok z w) (hz : z.cells = #[z]) (h1 : z.oneCell' = true)
    (dp : Option Addr) (n c : Nat) (g off : Nat) (cur : List Value) (te : TypeId) (hg : Cells w g te cur) (hpos : 0 < n → dp = some ⟨g, off, none⟩) (hfit : off + n ≤ cur.length) :
    ∃ w', (∀ ty, (Builtin.clear_ #[t] ty #[.slice dp n c]).run P w = .ok (.tuple #[]) w') ∧ Cells w' g te (splice cur off (List.replicate n z)) ∧ Keeps (fun k => k = g) w w' := by
  by_cases h0 : n = 0
  · subst h0
    refine ⟨w, ?_, by simpa [splice] using hg, Keeps.refl _ _⟩
    intro ty
    cases dp <;> simp [Builtin.clear_, run_underlying ht]
  · obtain rfl := hpos (by omega)
    have hzc : (Builtin.zeroCells z.cells n).toList = List.replicate n z := by
      rw [hz]
      simp [Builtin.zeroCells]
      apply List.ext_getElem
      · simp
      · intro i h1 h2
        simp [Nat.mod_one]
    have hst := run_storeCells_at P g off te (List.replicate n z) 0 cur.toArray w hg (by simpa using hfit) (by intro v hv'; rw [List.eq_of_mem_replicate hv']; exact h1)
    refine ⟨w.setRow g (splice cur off (List.replicate n z)).toArray, ?_, hg.set _, (Keeps.refl _ _).setRow g _ (fun _ => rfl)⟩
    intro ty
    obtain ⟨m, rfl⟩ : ∃ m, n = m + 1 := ⟨n - 1, by omega⟩
    simp [Builtin.clear_, run_underlying ht, hv, hzc, hst, splice]

/-- make([]T, n) runs to v in w': a word of its own, which the walk leaves alone -/
structure MakeRun (P : Program) (t : TypeId) (n : Nat) (w : World) (v : Value) (w' : World) : Prop where
  run : (Instr.makeSlice t (.int .i64 n) (.int .i64 n)).run P w = .ok v w'
/-- make([]T, n) -/
theorem run_makeK {P : Program} (w : World) (t e : TypeId) (i : TypeInfo) (z : Value) (ht : P.underlying t = some (.slice e)) (hi : P.info? e = some i) (hz : i.zero = some z) (hs : i.size = 1) (hc : z.cells = #[z])
    (n : Nat) (hbytes : i.bytes * n ≤ 281474976710656) (h63 : n ≤ 9223372036854775807) :
    ∃ w', (Instr.makeSlice t (.int .i64 n) (.int .i64 n)).run P w = .ok (.slice (some ⟨w.heap.size, 0, none⟩) n n) w' ∧ Cells w' w.heap.size e (List.replicate n z) ∧ Keeps Nowhere w w' ∧ w'.heap.size = w.heap.size + 1 := by
  have h := run_make (P := P) w t e i z ht hi hz .i64 .i64 n n (by omega) (by omega) (by rw [← Int.natCast_mul]; omega) (by omega)
  have hm : madeCells z.cells ((n : Int).toNat * i.size) = (List.replicate n z).toArray := by
    rw [hs, hc]
    apply Array.ext
    · simp [madeCells]
    · intro j h1 h2
      simp [madeCells, Nat.mod_one]
  rw [hm] at h
  exact ⟨_, h, Cells.new _ _ _, (Keeps.refl _ _).alloc _, by simp⟩
theorem wpList_makeK {P : Program} {w : World} {ops : Array Oper} {rest : List Oper} {o : Oper} {a : Act} {Q : Exit → Act → World → Prop} (hg : o.guard = none) (l c : Operand) (t : TypeId) (hop : o.op = Op.makeSlice t l c)
    (n : Nat) (hl : a.eval l = .int .i64 n) (hc : a.eval c = .int .i64 n) (w' : World) (v : Value) (hr : MakeRun P t n w v w')
    (hK : wpList P ops Q rest (a.put o.dst v) w') : wpList P ops Q (o :: rest) a w := by
  have hrun : (Instr.makeSlice t (.int .i64 n) (.int .i64 n)).run P w = .ok v w' := hr.run
  refine wpList_plain hg fun K hK' => ?_
  unfold Oper.wp
  simp [execOp, hop, hl, hc, hrun, Result.andThen]
  exact hK' _ _ hK
end Go.Proofs.YtgoikhfikmmngaaDoor
