/-
  rows of loads that grow; the answers of both Picks told as one pair of numbers
-/
import Derived.Test.YtnhgpnkomkiniaaDoorPlE
import Derived.Test.YtnhgpnkomkiniaaDoorPlD
import Derived.Laws.StructEq
namespace Go.Proofs.YtnhgpnkomkiniaaDoor
open Go.RowKit

variable {A : Nat → Addr} {w w' W : World}

theorem infoL : (Tryd.prog.info? 23).map (fun i => (i.zero, i.size, i.bytes)) = some (some (.agg #[.bool false, .bool false, .int .i64 0, .int .i64 0]), 4, 24) := by kernel_rfl
/-- a row of loads in memory that is new since w -/
structure Lr (w W : World) (v : Value) (zs : List LoadV) : Prop where
  k : Keeps Nowhere w W
  o : W.ownsRow w.heap.size 23 4 v zs.length (lc zs)
theorem Lr.quiet {v : Value} {zs : List LoadV} (h : Lr w W v zs) (k : Keeps Nowhere W w') : Lr w w' v zs := ⟨h.k.trans k, owns_later h.o k (fun _ _ x => x)⟩
theorem Lr.lds {v : Value} {zs : List LoadV} (h : Lr w W v zs) (hb : Bds zs) : LdsAt W v zs := lds_of_reads (owns_readsK h.o) hb
theorem appL {v sv : Value} {xa xb : List LoadV} {N : Nat} (h : Lr w W v xa) (hx : ReadsK 4 W sv xb.length (lc xb)) (hN : xa.length + xb.length = N) (hb : N * 24 ≤ 140737488355328) :
    ∃ (a : Option Addr) (c : Nat) (w' : World), Aside (∀ ty, (Builtin.append_ #[29, 29] ty #[v, sv]).run Tryd.prog W = .ok (.slice a N c) w') ∧ Aside (Lr w w' (.slice a N c) (xa ++ xb)) := by
  obtain ⟨i, hi, hz0, hz1, hz2⟩ := info_parts infoL
  obtain ⟨v', w', run, o', g', b'⟩ := run_appendR (P := Tryd.prog) W w.heap.size 29 23 i _ 4 24 Tryd.underlying29 hi hz0 hz1 hz2 rfl (by decide) v xa.length (lc xa) h.o sv xb.length (lc xb) hx (lc_one xb) (by rw [hN]; exact hb) (by unfold maxLen; omega) h.k.size
  have K : Keeps Nowhere w w' := h.k.next (grown_keeps g') (fun k e hlt => by have := owns_base h.o k e; omega)
  have o2 : w'.ownsRow w.heap.size 23 4 v' (xa ++ xb).length (lc (xa ++ xb)) := by rw [List.length_append, lc_append]; exact o'
  obtain ⟨p, q, r, rfl⟩ := owns_shapeK o2
  have hq : q = N := by
    rcases o2.2 with ⟨e, h0⟩ | ⟨g, cap, cur, e, _⟩
    · injection e with _ e _; rw [e, ← h0, List.length_append, hN]
    · injection e with _ e _; rw [e, List.length_append, hN]
  subst hq
  exact ⟨p, r, w', ⟨run⟩, ⟨K, o2⟩⟩
theorem emptyL (w : World) : Lr w (w.alloc (.cells #[] 23)) (.slice (some ⟨w.heap.size, 0, none⟩) 0 0) [] :=
  ⟨(Keeps.refl _ _).alloc _, by simp [lc], .inr ⟨w.heap.size, 0, #[], rfl, Nat.le_refl _, heap_alloc_new w _, Nat.le_refl _, Nat.zero_le _, by simp, by simp [lc]⟩⟩
/-- append([]api.Load{}, loads...) -/
theorem copyL {v : Value} {zs : List LoadV} {N : Nat} (hv : LdsAt w v zs) (hn : ∀ l c, v = .slice none l c → c = 0) (hN : zs.length = N) (hb : N * 24 ≤ 140737488355328) :
    ∃ (a : Option Addr) (c : Nat) (w' : World), Aside (∀ ty, (Builtin.append_ #[29, 29] ty #[.slice (some ⟨w.heap.size, 0, none⟩) 0 0, v]).run Tryd.prog (w.alloc (.cells #[] 23)) = .ok (.slice a N c) w') ∧ Aside (Lr w w' (.slice a N c) zs) := by
  have h := appL (emptyL w) ((hv.quiet ((Keeps.refl _ _).alloc _)).reads hn) (by simpa using hN) hb
  simpa using h
def zzL (n : Nat) : List Value := List.replicate n (.agg #[.bool false, .bool false, .int .i64 0, .int .i64 0])
/-- make([]api.Load, 0, n + 2) -/
theorem makeLR (W : World) (n : Nat) (hn : n * 24 ≤ 140737488351232) : ∃ (a : Option Addr) (c : Nat) (w' : World), (Instr.makeSlice 29 (.int .i64 0) (.int .i64 ((n : Int) + 2))).run Tryd.prog W = .ok (.slice a 0 c) w' ∧ Aside (Lr W w' (.slice a 0 c) []) := by
  obtain ⟨i, hi, hz0, hz1, hz2⟩ := info_parts infoL
  have h := run_make (P := Tryd.prog) W 29 23 i _ Tryd.underlying29 hi hz0 .i64 .i64 0 ((n + 2 : Nat) : Int) (by omega) (by omega) (by rw [hz2]; omega) (by omega)
  have e : ((n + 2 : Nat) : Int) = (n : Int) + 2 := by omega
  have e2 : ((n : Int) + 2).toNat = n + 2 := by omega
  rw [e, e2] at h
  refine ⟨_, _, _, h, ⟨(Keeps.refl _ _).alloc _, by simp [lc], .inr ⟨W.heap.size, n + 2, _, rfl, Nat.le_refl _, heap_alloc_new W _, by simp, by unfold maxLen; omega, ?_, by simp [lc]⟩⟩⟩
  rw [hz1]
  simp [madeCells]
/-- both Picks as one -/
theorem pickR_ex (most : Int) (zs : List LoadV) : ∃ k c, PickR most zs k c := by
  rcases pick_or most zs with ⟨a, p⟩ | n
  · exact ⟨a, 0, .inl ⟨a, rfl, rfl, p⟩⟩
  · exact ⟨0, whyN most zs, .inr ⟨rfl, rfl, n⟩⟩
theorem refPick_is {v : Value} {zs : List LoadV} {most k c : Int} (h : PickR most zs k c) (hv : LdsAt w v zs) : Calls Tryd.prog 12 #[v, .int .i64 most] w fun e w' => e = .returned (.tuple #[.int .i64 k, .int .i64 c]) ∧ Aside (Keeps Nowhere w w') := by
  refine (refPick_any v zs most hv).mono ?_
  rintro e w' ⟨k', c', rfl, P, K⟩
  have : k' = k ∧ c' = c := by
    rcases h with ⟨a, rfl, rfl, p⟩ | ⟨rfl, rfl, n⟩
    · exact P.it.ok p
    · exact P.it.no n
  obtain ⟨rfl, rfl⟩ := this
  exact ⟨rfl, K⟩
theorem pick_is {v : Value} {zs : List LoadV} {most k c : Int} (h : PickR most zs k c) (hv : LdsAt w v zs) (hs : Sents 61 codeVars A w) : Calls Tryd.prog 8 #[v, .int .i64 most] w fun e w' => ∃ ev, e = .returned (.tuple #[.int .i64 k, ev]) ∧ Hid (Coded A ev c) ∧ Aside (Keeps Nowhere w w') := by
  refine (pick_any v zs most hv hs).mono ?_
  rintro e w' ⟨k', ev, rfl, P, K⟩
  rcases h with ⟨a, rfl, rfl, p⟩ | ⟨rfl, rfl, n⟩
  · obtain ⟨rfl, rfl⟩ := P.it.ok p
    exact ⟨_, rfl, hide .none, K⟩
  · obtain ⟨rfl, C, _⟩ := P.it.no n
    exact ⟨_, rfl, hide C, K⟩
theorem ld_neq (l d : Bool) (o f : Int) (w : World) : (binOp .neq 23 (.agg #[.bool l, .bool d, .int .i64 o, .int .i64 f]) (.agg #[.bool l, .bool d, .int .i64 o, .int .i64 f])).run Tryd.prog w = .ok (.bool false) w := by
  have hst : Tryd.prog.stoodInHeld 23 = false := by kernel_rfl
  have hfo : Tryd.prog.underlying 23 = some (.struct (Tryd.prog.fieldsOf 23)) := by kernel_rfl
  have h := run_equalIn_agg (P := Tryd.prog) (w := w) 9999 23 #[.bool l, .bool d, .int .i64 o, .int .i64 f] #[.bool l, .bool d, .int .i64 o, .int .i64 f] hfo hst
  rw [run_neq_struct, h]
  clear h hst hfo
  simp only [Program.fieldsOf, Tryd.underlying23]
  simp [Op.eqFields, go_sem]
theorem ld_eql (l d : Bool) (o f : Int) (w : World) : (binOp .eql 23 (.agg #[.bool l, .bool d, .int .i64 o, .int .i64 f]) (.agg #[.bool l, .bool d, .int .i64 o, .int .i64 f])).run Tryd.prog w = .ok (.bool true) w := by
  have hst : Tryd.prog.stoodInHeld 23 = false := by kernel_rfl
  have hfo : Tryd.prog.underlying 23 = some (.struct (Tryd.prog.fieldsOf 23)) := by kernel_rfl
  have h := run_equalIn_agg (P := Tryd.prog) (w := w) 9999 23 #[.bool l, .bool d, .int .i64 o, .int .i64 f] #[.bool l, .bool d, .int .i64 o, .int .i64 f] hfo hst
  rw [run_eql_struct, h]
  clear h hst hfo
  simp only [Program.fieldsOf, Tryd.underlying23]
  simp [Op.eqFields, go_sem]
end Go.Proofs.YtnhgpnkomkiniaaDoor
