/-
  package handles: the map from places to handles
-/
import Derived.Test.YtjloedcikcamkaaDoorHnM
import Derived.DeepKeys4
namespace Go.Proofs.YtjloedcikcamkaaDoor
open Go.RowKit Go.Maps

def kP (p : Pl) : Lit := .string (keyBytes [.int .i64 p.c, .int .i64 p.l, .int .u32 p.d])
theorem laidOutB_ : laidOutB Tryd.prog = true := by kernel_rfl
theorem row_place : (33 : TypeId) < Tryd.prog.types.size := of_decide_eq_true (by kernel_rfl)
theorem deep_place : Tryd.prog.keyTypeAt (Tryd.prog.types.size + 1) 33 = true := by kernel_rfl
theorem wide_place : (match Tryd.prog.underlying 33 with | some (.array _ _) | some (.struct _) => true | _ => false) = true := by rw [Tryd.underlying33]
theorem deep3_place : Tryd.prog.keyTypeAt 3 33 = true := by kernel_rfl
set_option maxRecDepth 20000 in
theorem law_place : WideMaps.KeyLaw Tryd.prog 33 := deep_law_laid (m := 3) laidOutB_ (by decide) row_place deep3_place wide_place
theorem keyed_place : Keyed Tryd.prog 33 := Keyed.of_law law_place
theorem cells_place : Tryd.prog.cellsOf 33 = 3 := by kernel_rfl
theorem cells_int : Tryd.prog.cellsOf 3 = 1 := by kernel_rfl
theorem cells_u32 : Tryd.prog.cellsOf 31 = 1 := by kernel_rfl
theorem succ_of_lt {n m : Nat} (h : n < m) : ∃ d, m = d + 1 := ⟨m - 1, by omega⟩
theorem keyOf_place {p : Pl} (h : p.Wide) : keyOf Tryd.prog 33 (pv p) = some (kP p) := by
  have hf : (pv p).formed Tryd.prog 33 = true := by simp [Value.formed, Tryd.underlying33, cells_place]
  have wc : (Lit.int .i64 p.c).wf = true := wf_i64 ⟨h.c0, h.c1⟩
  have wl : (Lit.int .i64 p.l).wf = true := wf_i64 ⟨h.l0, h.l1⟩
  have wd : (Lit.int .u32 (p.d : Int)).wf = true := by
    have h1 : IntKind.min .u32 = 0 := by decide
    have h2 : IntKind.max .u32 = 4294967295 := by decide
    simp only [Lit.wf, h1, h2, Bool.and_eq_true, decide_eq_true_eq]
    have := h.d1
    omega
  have hd : Tryd.prog.keyType 33 = true := deep_place
  obtain ⟨d, hsz⟩ : ∃ d, Tryd.prog.types.size = d + 1 := succ_of_lt row_place
  have hl : Tryd.prog.keyLits (Tryd.prog.types.size + 1) 33 [.int .i64 p.c, .int .i64 p.l, .int .u32 p.d] = some [.int .i64 p.c, .int .i64 p.l, .int .u32 p.d] := by
    rw [hsz]
    unfold Program.keyLits
    simp only [Tryd.underlying33, cells_place]
    rw [if_pos ⟨rfl, by simp⟩]
    simp only [List.mapM_cons, List.mapM_nil, Program.keyLits, Tryd.underlying3, Tryd.underlying31, cells_int, cells_u32]
    simp [wc, wl, wd]
  unfold keyOf
  simp only [Tryd.underlying33, hd, hf, Bool.and_self, if_true]
  show (Tryd.prog.keyLits (Tryd.prog.types.size + 1) 33 [.int .i64 p.c, .int .i64 p.l, .int .u32 p.d]).map (fun ls => Lit.string (keyBytes ls)) = some (kP p)
  rw [hl]
  rfl
theorem kP_inj {p q : Pl} (h : p.Wide) (h' : q.Wide) (e : kP p = kP q) : p = q := by
  have h1 := keyOf_place h
  rw [e] at h1
  have := keyed_place.inj h1 (keyOf_place h')
  simp only [pv, Value.agg.injEq, Array.mk.injEq, List.cons.injEq, Value.int.injEq, true_and, and_true] at this
  obtain ⟨e1, e2, e3⟩ := this
  cases p
  cases q
  simp only at e1 e2 e3
  simp only [Pl.mk.injEq]
  exact ⟨e1, e2, by omega⟩
def dQ (zd : DataW Value) : Option Int → DataW Value
  | none => zd
  | some z => .held (.int .i64 z)
/-- the map holds L's handles by their places -/
def MapQ (w : World) (mb : Nat) (L : Hl) : Prop :=
  ∃ D, w.ownsMap Tryd.prog 33 RhP mb L.length D ∧ Maps.size D = L.length ∧ ∀ p, p.Wide → (∀ zd, D.atKey (kP p) zd = dQ zd (hof L p)) ∧ Maps.has D (kP p) = (hof L p).isSome

variable {w w' : World} {mb g : Nat} {L : Hl} {p : Pl}
theorem MapQ.lt (h : MapQ w mb L) : mb < w.heap.size := by obtain ⟨D, h, _⟩ := h; exact h.lt
theorem MapQ.isMap (h : MapQ w mb L) : ∃ es clock, w.heap[mb]? = some (.map es clock) := by obtain ⟨D, ⟨es, clock, hb, _⟩, _⟩ := h; exact ⟨es, clock, hb⟩
theorem MapQ.later {S : Nat → Prop} (h : MapQ w mb L) (hk : Keeps S w w') (hn : ¬ S mb) : MapQ w' mb L := by
  have hlt := h.lt
  obtain ⟨D, ⟨es, clock, hb, F', hs, hD⟩, h1⟩ := h
  exact ⟨D, ⟨es, clock, (hk.block mb hlt hn).trans hb, F', hs, hD⟩, h1⟩
theorem MapQ.made (w : World) : MapQ (w.alloc (.map #[] 0)) w.heap.size [] :=
  ⟨_, World.ownsMap_made w _ _ _, rfl, fun _ _ => ⟨fun _ => rfl, rfl⟩⟩
theorem zero_int (w : World) : (zeroValue 3).run Tryd.prog w = .ok (.int .i64 0) w := by kernel_rfl
theorem MapQ.look (h : MapQ w mb L) (hp : p.Wide) : (Instr.lookup 60 (.map (some mb)) (pv p) true).run Tryd.prog w = .ok (.tuple #[.int .i64 ((hof L p).getD 0), .bool (hof L p).isSome]) w := by
  obtain ⟨D, h, _, h1⟩ := h
  obtain ⟨h2, h3⟩ := h1 p hp
  obtain ⟨v, ps, hrun, hv⟩ := h.look_ok keyed_place Tryd.underlying60 (zero_int w) (zd := .held (.int .i64 0)) (zp := []) rfl (keyOf_place hp)
  rw [h2] at hv
  rw [hrun, h3]
  unfold RhP at hv
  cases hl : hof L p with
  | none =>
    rw [hl] at hv
    simp only [dQ, Option.some.injEq, Prod.mk.injEq, DataW.held.injEq] at hv
    rw [hv.1]
    rfl
  | some v' =>
    rw [hl] at hv
    simp only [dQ, Option.some.injEq, Prod.mk.injEq, DataW.held.injEq] at hv
    rw [hv.1]
    rfl
theorem MapQ.store (h : MapQ w mb L) (ho : HOk g L) (hg : g < 2147483648) (hp : p.Wide) (hn0 : hof L p = none) : ∃ w', (Instr.mapUpdate 60 (.map (some mb)) (pv p) (.int .i64 ((g : Int) + 1))).run Tryd.prog w = .ok () w' ∧ MapQ w' mb (L ++ [((g : Int) + 1, p)]) ∧ Keeps (fun x => x = mb) w w' := by
  have hn : L.length < maxLen := Nat.lt_of_le_of_lt ho.len (Nat.lt_trans hg (by decide))
  obtain ⟨D, h, h2, h1⟩ := h
  obtain ⟨w', hrun, hh, hgr⟩ := h.update keyed_place Tryd.underlying60 hn (keyOf_place hp) (val := .int .i64 ((g : Int) + 1)) (d := .held (.int .i64 ((g : Int) + 1))) (ps := []) rfl
  refine ⟨w', hrun, ⟨_, by rw [List.length_append]; exact hh, ?_, fun q hq => ?_⟩, keeps_grown hgr⟩
  · rw [Maps.size_put (h.tidy keyed_place), (h1 _ hp).2, hn0, h2, List.length_append]; rfl
  rw [HOk.of_bind hn0]
  split
  · rename_i e
    subst e
    exact ⟨fun zd => atKey_put_same h.isMap (keyed_place.key (keyOf_place hp)) _ _, Maps.has_put_same h.isMap (keyed_place.key (keyOf_place hp)) _⟩
  · rename_i e
    rw [Maps.has_put_other (fun x => e (kP_inj hq hp x))]
    exact ⟨fun zd => by rw [atKey_put_other (fun x => e (kP_inj hq hp x))]; exact (h1 q hq).1 zd, (h1 q hq).2⟩
theorem MapQ.drop (h : MapQ w mb L) (ho : HOk g L) {z : Int} (hf : hfind L z = some p) : ∃ w', (∀ ty, (Builtin.delete_ #[60, 33] ty #[.map (some mb), pv p]).run Tryd.prog w = .ok (.tuple #[]) w') ∧ MapQ w' mb (hdel L z) ∧ Keeps (fun x => x = mb) w w' := by
  have hp : p.Wide := ho.wd _ (hfind_mem hf)
  obtain ⟨D, h, h2, h1⟩ := h
  obtain ⟨w', hrun, hh, ht⟩ := h.drop keyed_place Tryd.underlying60 (keyOf_place hp) 0
  have hsz := Maps.size_del (k := kP p) (h.tidy keyed_place)
  have hlen : Maps.size (D.del (kP p)) = (hdel L z).length := by
    rw [(h1 p hp).2, h2, ho.find_of.1 hf] at hsz
    have := ho.len_del hf
    simp at hsz
    omega
  refine ⟨w', fun ty => hrun, ⟨D.del (kP p), ?_, hlen, fun q hq => ?_⟩, keeps_grown ht.grown⟩
  · obtain ⟨es, clock, hb, F', hs, hD⟩ := hh
    have e : Maps.size (D.del (kP p)) = es.size := by rw [hD]; simp [Maps.size, length_sorted]
    exact ⟨es, clock, hb, F', by omega, hD⟩
  rw [ho.of_del hf]
  split
  · rename_i e
    subst e
    exact ⟨fun zd => atKey_del_same _, Maps.has_del_same⟩
  · rename_i e
    rw [Maps.has_del_other (fun x => e (kP_inj hq hp x))]
    exact ⟨fun zd => by rw [atKey_del_other (fun x => e (kP_inj hq hp x))]; exact (h1 q hq).1 zd, (h1 q hq).2⟩
end Go.Proofs.YtjloedcikcamkaaDoor
