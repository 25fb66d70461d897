/-
  append onto a row of the call's own. Of whatever program.
-/
import Derived.Test.YtbinopfcelebbaaDoorOwners
import Derived.Laws.AppendOwnNone
import Derived.OwnWalk
namespace Go.Proofs.YtbinopfcelebbaaDoor
open Go.RowKit

/-- a slice without an address has no room -/
def NilOk (v : Value) : Prop := ∀ l c, v = .slice none l c → c = 0

theorem run_appendK {P : Program} (w : World) (base : Nat) (t e : TypeId) (i : TypeInfo) (z : Value) (bytes : Nat) (ht : P.underlying t = some (.slice e)) (hi : P.info? e = some i) (hz : i.zero = some z) (hsize : i.size = 1) (hby : i.bytes = bytes)
    (hzs : z.cells.size = 1) (v : Value) (xs : List Value) (hown : w.ownsRow base e 1 v xs.length xs) (sv : Value) (ys : List Value) (hr : ReadsOff Nowhere w sv ys) (hnil : NilOk sv) (h1 : ∀ u ∈ ys, u.oneCell' = true)
    (hb : (xs.length + ys.length) * bytes ≤ 140737488355328) (h63 : xs.length + ys.length ≤ maxLen) (hbase : base ≤ w.heap.size) :
    ∃ v' w', (∀ ty, (Builtin.append_ #[t, t] ty #[v, sv]).run P w = .ok v' w') ∧ w'.ownsRow base e 1 v' (xs ++ ys).length (xs ++ ys) ∧ w.grownBy w' v.ownBlock := by
  obtain ⟨a, c, rfl, hlc, hc⟩ := hr
  cases a with
  | none =>
    obtain rfl : ys = [] := by
      cases ys with
      | nil => rfl
      | cons u us => obtain ⟨x, hx, _⟩ := hc 0 u rfl; cases hx
    obtain rfl := hnil _ _ rfl
    refine ⟨v, w, fun ty => ?_, by simpa using hown, ⟨rfl, rfl, rfl, Nat.le_refl _, fun _ _ _ => rfl⟩⟩
    exact run_append_owned_none (P := P) (w := w) base t ty e i 1 ht hi v xs.length xs hown
  | some ad =>
    obtain ⟨v', w', hrun, ho, hg, _⟩ := run_append_own (P := P) w base t 0 e i z 1 bytes ht hi hz hsize hby hzs (by decide) v xs.length xs hown ad ys.length c ys (by simp) (fun j u hj => by
      obtain ⟨x, hx, _, hce⟩ := hc j u hj
      cases hx
      exact hce) h1 h63 hb hbase
    refine ⟨v', w', fun ty => hrun, ?_, hg⟩
    rw [List.length_append]
    exact ho

theorem wpList_appendK {P : Program} {w : World} {ops : Array Oper} {rest : List Oper} {o : Oper} {a : Act} {Q : Exit → Act → World → Prop} (hgd : o.guard = none) (s x : Operand) (t : TypeId)
    (ho : o.op = .call { callee := .builtin .append, args := #[s, x], argTypes := #[t, t] }) (v sv v' : Value) (w' : World) (hs : a.eval s = v) (hx : a.eval x = sv) (hrun : ∀ ty, (Builtin.append_ #[t, t] ty #[v, sv]).run P w = .ok v' w')
    (h : wpList P ops Q rest (a.put o.dst v') w') : wpList P ops Q (o :: rest) a w := by
  refine wpList_plain hgd fun K hK => ?_
  unfold Oper.wp
  simp [execOp, ho, resolve, invoke, builtin, hs, hx, hrun, Result.andThen]
  exact hK _ _ h

theorem step_appendK {P : Program} {ops : Array Oper} {o : Oper} {a : Act} {w : World} {K : Act → World → Prop} {Q : Exit → Act → World → Prop} {E : Prop} (tmp : Tmp) (hdst : o.dst = some tmp) (hgd : o.guard = none) (s x : Operand) (t : TypeId)
    (ho : o.op = .call { callee := .builtin .append, args := #[s, x], argTypes := #[t, t] }) (v sv v' : Value) (w' : World) (hs : a.eval s = v) (hx : a.eval x = sv) (hrun : ∀ ty, (Builtin.append_ #[t, t] ty #[v, sv]).run P w = .ok v' w')
    (h : K (a.put (some tmp) v') w') : if Region.wanted o (yielded ops a.tmps) = true then Oper.wp P o a w K Q else E := by
  have hw : Region.wanted o (yielded ops a.tmps) = true := by simp [Region.wanted, hgd]
  rw [if_pos hw]
  unfold Oper.wp
  simp [execOp, ho, resolve, invoke, builtin, hs, hx, hrun, Result.andThen]
  rw [← hdst] at h
  exact h

theorem grown_keeps {w w' : World} {row : Option Nat} (h : w.grownBy w' row) : Keeps (fun k => row = some k) w w' :=
  ⟨h.os, h.tape, h.output, h.size, fun k hk hn => h.block k hk (fun e => hn e.symm)⟩
theorem owns_reads {w : World} {base : Nat} {e : TypeId} {v : Value} {xs : List Value} (h : w.ownsRow base e 1 v xs.length xs) : ReadsOff (fun k => k < base) w v xs ∧ NilOk v := by
  rcases h.2 with ⟨rfl, h0⟩ | ⟨g, cap, cur, rfl, hb, hg, hn, _, hs, ht⟩
  · obtain rfl := List.eq_nil_of_length_eq_zero h0
    exact ⟨⟨none, 0, rfl, Nat.le_refl _, fun j u hj => by simp at hj⟩, fun l c e => by injection e with _ _ e; exact e.symm⟩
  · refine ⟨⟨some ⟨g, 0, none⟩, cap, rfl, hn, fun j u hj => ⟨_, rfl, by show ¬ g < base; omega, h.cells rfl j u hj⟩⟩, fun l c e => by injection e with e; cases e⟩
theorem owns_keeps {S : Nat → Prop} {w w' : World} {base : Nat} {e : TypeId} {n : Nat} {v : Value} {xs : List Value} (h : w.ownsRow base e 1 v n xs) (hk : Keeps S w w') (hn : ∀ k, v.ownBlock = some k → ¬ S k) : w'.ownsRow base e 1 v n xs := by
  refine ⟨h.1, ?_⟩
  rcases h.2 with h0 | ⟨g, cap, cur, rfl, hb, hg, rest⟩
  · exact .inl h0
  · exact .inr ⟨g, cap, cur, rfl, hb, (hk.block g (Array.getElem?_eq_some_iff.1 hg).1 (hn g rfl)).trans hg, rest⟩
/-- an empty literal: a new row without cells -/
theorem owns_empty (w : World) (e : TypeId) : (w.alloc (.cells #[] e)).ownsRow w.heap.size e 1 (.slice (some ⟨w.heap.size, 0, none⟩) 0 0) 0 [] :=
  World.ownsRow_made w #[] 0 (Nat.le_refl _) (Nat.zero_le _) rfl
theorem ReadsOff.slice {S : Nat → Prop} {w : World} {a : Option Addr} {l c : Nat} {xs : List Value} (h : ReadsOff S w (.slice a l c) xs) (k : Nat) (hk : k ≤ xs.length) : ReadsOff S w (.slice a k c) (xs.take k) := by
  obtain ⟨a', c', he, hlc, hc⟩ := h
  injection he with e1 e2 e3
  subst e1 e3
  have hl : (xs.take k).length = k := by simp; omega
  refine ⟨a, c, by rw [hl], by omega, fun j u hj => hc j u ?_⟩
  rw [List.getElem?_take] at hj
  split at hj
  · exact hj
  · cases hj
theorem ReadsOff.drop {S : Nat → Prop} {w : World} {ad : Addr} {l c : Nat} {xs : List Value} (h : ReadsOff S w (.slice (some ad) l c) xs) (k : Nat) (hk : k ≤ xs.length) :
    ReadsOff S w (.slice (if c = k then some ad else some (ad.add k)) (l - k) (c - k)) (xs.drop k) := by
  obtain ⟨a', c', he, hlc, hc⟩ := h
  injection he with e1 e2 e3
  subst e1 e2 e3
  refine ⟨_, _, by rw [List.length_drop], by rw [List.length_drop]; omega, fun j u hj => ?_⟩
  rw [List.getElem?_drop] at hj
  obtain ⟨x, hx, hn, hce⟩ := hc (k + j) u hj
  cases hx
  have hlt : k + j < xs.length := (List.getElem?_eq_some_iff.1 hj).1
  exact ⟨ad.add k, if_neg (by omega), by rw [add_block]; exact hn, by rw [add_add]; exact hce⟩
theorem ReadsOff.len {S : Nat → Prop} {w : World} {a : Option Addr} {l c : Nat} {xs : List Value} (h : ReadsOff S w (.slice a l c) xs) : l = xs.length ∧ xs.length ≤ c := by
  obtain ⟨a', c', he, hlc, hc⟩ := h
  injection he with e1 e2 e3
  subst e3
  exact ⟨e2, hlc⟩
/-- append([]T{}, src...): what it leaves, wherever the empty row was laid -/
theorem copyRow {P : Program} (w W : World) (t e : TypeId) (i : TypeInfo) (z : Value) (bytes : Nat) (ht : P.underlying t = some (.slice e)) (hi : P.info? e = some i) (hz : i.zero = some z) (hsize : i.size = 1) (hby : i.bytes = bytes)
    (hzs : z.cells.size = 1) (hk : Keeps Nowhere w W) (g : Nat) (hg : w.heap.size ≤ g) (hown : W.ownsRow g e 1 (.slice (some ⟨g, 0, none⟩) 0 0) 0 []) (sv : Value) (ys : List Value) (hr : ReadsOff Nowhere w sv ys) (hnil : NilOk sv) (h1 : ∀ u ∈ ys, u.oneCell' = true)
    (hb : ys.length * bytes ≤ 140737488355328) (h63 : ys.length ≤ maxLen) :
    ∃ v' w', (∀ ty, (Builtin.append_ #[t, t] ty #[.slice (some ⟨g, 0, none⟩) 0 0, sv]).run P W = .ok v' w') ∧ w'.ownsRow g e 1 v' ys.length ys ∧ Keeps (fun k => k = g) W w' ∧ Keeps Nowhere w w' := by
  have hgl : g < W.heap.size := by
    rcases hown.2 with ⟨h, _⟩ | ⟨g', cap, cur, h, _, h2, _⟩
    · cases h
    · injection h with h; injection h with h; injection h with h; subst h; exact (Array.getElem?_eq_some_iff.1 h2).1
  obtain ⟨v', w', run, o, gr⟩ := run_appendK (P := P) W g t e i z bytes ht hi hz hsize hby hzs _ [] hown sv ys ((hr.later hk).mono (fun _ x _ => x.elim)) hnil h1 (by simpa using hb) (by simpa using h63) (Nat.le_of_lt hgl)
  rw [List.nil_append] at o
  have k1 : Keeps (fun k => k = g) W w' := (grown_keeps gr).mono (fun k e _ => by simp only [Value.ownBlock, Option.some.injEq] at e; exact e.symm)
  exact ⟨v', w', run, o, k1, hk.next k1 (fun k e hlt => by omega)⟩
theorem step_copyRow {P : Program} {ops : Array Oper} {o : Oper} {a : Act} {W : World} {K : Act → World → Prop} {Q : Exit → Act → World → Prop} {E : Prop} (tmp : Tmp) (hdst : o.dst = some tmp) (hgd : o.guard = none) (s x : Operand) (t : TypeId)
    (ho : o.op = .call { callee := .builtin .append, args := #[s, x], argTypes := #[t, t] }) (e : TypeId) (z : Value) (bytes : Nat) (ht : P.underlying t = some (.slice e)) (hinfo : (P.info? e).map (fun i => (i.zero, i.size, i.bytes)) = some (some z, 1, bytes))
    (hzs : z.cells.size = 1) (w : World) (hk : Keeps Nowhere w W) (g : Nat) (hg : w.heap.size ≤ g) (hown : W.ownsRow g e 1 (.slice (some ⟨g, 0, none⟩) 0 0) 0 []) (sv : Value) (ys : List Value) (hr : ReadsOff Nowhere w sv ys) (hnil : NilOk sv) (h1 : ∀ u ∈ ys, u.oneCell' = true)
    (hb : ys.length * bytes ≤ 140737488355328) (h63 : ys.length ≤ maxLen) (hs : a.eval s = .slice (some ⟨g, 0, none⟩) 0 0) (hx : a.eval x = sv)
    (h : ∀ v' w', Aside (w'.ownsRow g e 1 v' ys.length ys) → Aside (Keeps (fun k => k = g) W w') → Aside (Keeps Nowhere w w') → K (a.put (some tmp) v') w') :
    if Region.wanted o (yielded ops a.tmps) = true then Oper.wp P o a W K Q else E := by
  obtain ⟨i, hi, hz0, hz1, hz2⟩ := info_parts hinfo
  obtain ⟨v', w', run, o', k1, k2⟩ := copyRow (P := P) w W t e i z bytes ht hi hz0 hz1 hz2 hzs hk g hg hown sv ys hr hnil h1 hb h63
  exact step_appendK tmp hdst hgd s x t ho _ sv v' w' hs hx run (h v' w' ⟨o'⟩ ⟨k1⟩ ⟨k2⟩)
theorem wpList_copyRow {P : Program} {W : World} {ops : Array Oper} {rest : List Oper} {o : Oper} {a : Act} {Q : Exit → Act → World → Prop} (hgd : o.guard = none) (s x : Operand) (t : TypeId)
    (ho : o.op = .call { callee := .builtin .append, args := #[s, x], argTypes := #[t, t] }) (e : TypeId) (z : Value) (bytes : Nat) (ht : P.underlying t = some (.slice e)) (hinfo : (P.info? e).map (fun i => (i.zero, i.size, i.bytes)) = some (some z, 1, bytes))
    (hzs : z.cells.size = 1) (w : World) (hk : Keeps Nowhere w W) (g : Nat) (hg : w.heap.size ≤ g) (hown : W.ownsRow g e 1 (.slice (some ⟨g, 0, none⟩) 0 0) 0 []) (sv : Value) (ys : List Value) (hr : ReadsOff Nowhere w sv ys) (hnil : NilOk sv) (h1 : ∀ u ∈ ys, u.oneCell' = true)
    (hb : ys.length * bytes ≤ 140737488355328) (h63 : ys.length ≤ maxLen) (hs : a.eval s = .slice (some ⟨g, 0, none⟩) 0 0) (hx : a.eval x = sv)
    (h : ∀ v' w', Aside (w'.ownsRow g e 1 v' ys.length ys) → Aside (Keeps (fun k => k = g) W w') → Aside (Keeps Nowhere w w') → wpList P ops Q rest (a.put o.dst v') w') : wpList P ops Q (o :: rest) a W := by
  obtain ⟨i, hi, hz0, hz1, hz2⟩ := info_parts hinfo
  obtain ⟨v', w', run, o', k1, k2⟩ := copyRow (P := P) w W t e i z bytes ht hi hz0 hz1 hz2 hzs hk g hg hown sv ys hr hnil h1 hb h63
  exact wpList_appendK hgd s x t ho _ sv v' w' hs hx run (h v' w' ⟨o'⟩ ⟨k1⟩ ⟨k2⟩)
end Go.Proofs.YtbinopfcelebbaaDoor
