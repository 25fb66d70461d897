import Derived.Test.YtbbldkldgjmmgaaGreatDoorNms
import Derived.Test.YtbbldkldgjmmgaaGreatDoorBase
/-
  append onto a row of bytes that somebody owns: which blocks it changes, where the row lies behind it. Of whatever program that has the types of bytes.
-/
namespace Go.Proofs.YtbbldkldgjmmgaaGreatDoor
open Go.RowKit

theorem owns_val {w : World} {base : Nat} {e : TypeId} {k n : Nat} {v : Value} {xs : List Value} (h : w.ownsRow base e k v n xs) : ∃ q c, v = .slice q n c := by
  rcases h.2 with ⟨rfl, rfl⟩ | ⟨g, cap, cur, rfl, _⟩
  · exact ⟨_, _, rfl⟩
  · exact ⟨_, _, rfl⟩
theorem run_appendO (W : World) (v sv : Value) (ns ms : List Int) (hown : W.ownsRow 0 5 1 v ns.length (bv ns)) (hr : Rd W sv ms) (hb : ns.length + ms.length ≤ 140737488355328) :
    ∃ v' w', (∀ ty, (Builtin.append_ #[32, 32] ty #[v, sv]).run Tryz.prog W = .ok v' w') ∧ w'.ownsRow 0 5 1 v' (ns ++ ms).length (bv (ns ++ ms)) ∧ Keeps (fun b => v.ownBlock = some b) W w' ∧ ∀ b, v'.ownBlock = some b → v.ownBlock = some b ∨ W.heap.size ≤ b := by
  obtain ⟨i, hi, hz0, hz1, hz2⟩ := info_parts u8info
  have hown' : W.ownsRow 0 5 1 v (bv ns).length (bv ns) := by rw [bv_length]; exact hown
  obtain ⟨v', w', run, o', g'⟩ := run_appendK (P := Tryz.prog) W 0 32 5 i _ 1 Tryz.underlying32 hi hz0 hz1 hz2 rfl v (bv ns) hown' sv (bv ms) hr.1 hr.2 (bv_one ms) (by rw [bv_length, bv_length]; omega) (by rw [bv_length, bv_length]; unfold maxLen; omega) (Nat.zero_le _)
  refine ⟨v', w', run, ?_, grown_keeps g', ?_⟩
  · rw [← bv_append, bv_length] at o'
    exact o'
  · obtain ⟨⟨ad, c, rfl, hlc, hc⟩, hn⟩ := hr
    cases ad with
    | none =>
      obtain rfl := hn _ _ rfl
      have := run 0
      rw [show (bv ms).length = 0 by omega] at this
      rw [run_append_owned_none (P := Tryz.prog) (w := W) 0 32 0 5 i 1 Tryz.underlying32 hi v (bv ns).length (bv ns) hown'] at this
      injection this with e1 _
      subst e1
      exact fun b hb => .inl hb
    | some ad =>
      exact append_block W 0 32 0 5 i _ 1 1 Tryz.underlying32 hi hz0 hz1 hz2 rfl (by decide) v (bv ns).length (bv ns) hown' ad (bv ms).length c (bv ms) (by simp) (fun j u hj => by
        obtain ⟨x, hx, _, hce⟩ := hc j u hj
        cases hx
        exact hce) (bv_one ms) (by rw [bv_length, bv_length]; omega) (by rw [bv_length, bv_length]; unfold maxLen; omega) v' w' (run 0)
/-- append onto a row of bytes as a step of a region: which blocks it changes, and where the row lies behind it -/
theorem step_appendO {W : World} {ops : Array Oper} {o : Oper} {a : Act} {K : Act → World → Prop} {Q : Exit → Act → World → Prop} {E : Prop} (tmp : Tmp) (hdst : o.dst = some tmp) (hgd : o.guard = none) (s x : Operand)
    (ho : o.op = .call { callee := .builtin .append, args := #[s, x], argTypes := #[32, 32] }) (v sv : Value) (ns ms : List Int) (hown : W.ownsRow 0 5 1 v ns.length (bv ns)) (hr : Rd W sv ms)
    (hb : ns.length + ms.length ≤ 140737488355328) (hs : a.eval s = v) (hx : a.eval x = sv)
    (h : ∀ q' l' c' w', Aside (w'.ownsRow 0 5 1 (.slice q' l' c') (ns ++ ms).length (bv (ns ++ ms))) → Aside (Keeps (fun b => v.ownBlock = some b) W w') → Aside (∀ b, (Value.slice q' l' c').ownBlock = some b → v.ownBlock = some b ∨ W.heap.size ≤ b) → K (a.put (some tmp) (.slice q' l' c')) w') : if Region.wanted o (yielded ops a.tmps) = true then Oper.wp Tryz.prog o a W K Q else E := by
  obtain ⟨v', w', run, o', k', b'⟩ := run_appendO W v sv ns ms hown hr hb
  obtain ⟨q', c', rfl⟩ := owns_val o'
  exact step_appendK tmp hdst hgd s x 32 ho v sv _ w' hs hx run (h _ _ _ w' ⟨o'⟩ ⟨k'⟩ ⟨b'⟩)
theorem wpList_appendO {W : World} {ops : Array Oper} {rest : List Oper} {o : Oper} {a : Act} {Q : Exit → Act → World → Prop} (hgd : o.guard = none) (s x : Operand)
    (ho : o.op = .call { callee := .builtin .append, args := #[s, x], argTypes := #[32, 32] }) (v sv : Value) (ns ms : List Int) (hown : W.ownsRow 0 5 1 v ns.length (bv ns)) (hr : Rd W sv ms)
    (hb : ns.length + ms.length ≤ 140737488355328) (hs : a.eval s = v) (hx : a.eval x = sv)
    (h : ∀ q' l' c' w', Aside (w'.ownsRow 0 5 1 (.slice q' l' c') (ns ++ ms).length (bv (ns ++ ms))) → Aside (Keeps (fun b => v.ownBlock = some b) W w') → Aside (∀ b, (Value.slice q' l' c').ownBlock = some b → v.ownBlock = some b ∨ W.heap.size ≤ b) → wpList Tryz.prog ops Q rest (a.put o.dst (.slice q' l' c')) w') : wpList Tryz.prog ops Q (o :: rest) a W := by
  obtain ⟨v', w', run, o', k', b'⟩ := run_appendO W v sv ns ms hown hr hb
  obtain ⟨q', c', rfl⟩ := owns_val o'
  exact wpList_appendK hgd s x 32 ho v sv _ w' hs hx run (h _ _ _ w' ⟨o'⟩ ⟨k'⟩ ⟨b'⟩)

theorem bv_take (ns : List Int) (k : Nat) : bv (ns.take k) = (bv ns).take k := by simp [bv]
theorem bv_drop (ns : List Int) (k : Nat) : bv (ns.drop k) = (bv ns).drop k := by simp [bv]
end Go.Proofs.YtbbldkldgjmmgaaGreatDoor

/-
  Steps by owners.
-/
namespace Go.Proofs.YtbbldkldgjmmgaaGreatDoor
open Go.RowKit

abbrev ptr (p : Nat) : Value := .pointer (some ⟨p, 0, none⟩)
/-- a step by the owners I: own' says of old blocks what own says; only blocks of I's have changed -/
structure Sn (I : Nat → Prop) (own : Nat → Nat) (w : World) (own' : Nat → Nat) (w' : World) : Prop where
  agree : ∀ k, k < w.heap.size → own' k = own k
  keeps : Keeps (fun k => I (own k)) w w'
theorem Sn.refl (I : Nat → Prop) (own : Nat → Nat) (w : World) : Sn I own w own w := ⟨fun _ _ => rfl, Keeps.refl _ _⟩
theorem Sn.trans {I : Nat → Prop} {own own' own'' : Nat → Nat} {w w' w'' : World} (h : Sn I own w own' w') (h' : Sn I own' w' own'' w'') : Sn I own w own'' w'' :=
  ⟨fun k hk => (h'.agree k (Nat.lt_of_lt_of_le hk h.keeps.size)).trans (h.agree k hk), h.keeps.next h'.keeps (fun k e hk => by rw [h.agree k hk] at e; exact e)⟩
theorem Sn.mono {I J : Nat → Prop} {own own' : Nat → Nat} {w w' : World} (h : Sn I own w own' w') (hij : ∀ k, I k → J k) : Sn J own w own' w' := ⟨h.agree, h.keeps.mono (fun _ e _ => hij _ e)⟩
theorem Sn.quiet {I : Nat → Prop} {own : Nat → Nat} {w w' : World} (hk : Keeps Nowhere w w') (r : Nat) : Sn I own w (give own w.heap.size r) w' := ⟨fun _ h => give_old h, hk.any⟩
theorem Sn.same {I : Nat → Prop} {own : Nat → Nat} {w w' : World} (hk : Keeps Nowhere w w') : Sn I own w own w' := ⟨fun _ _ => rfl, hk.any⟩
theorem Sn.by {own : Nat → Nat} {w w' : World} {i : Nat} (hk : Keeps (fun k => own k = i) w w') (r : Nat) : Sn (fun k => k = i) own w (give own w.heap.size r) w' := ⟨fun _ h => give_old h, hk⟩
theorem CellsO.sn {I : Nat → Prop} {own own' : Nat → Nat} {w w' : World} {i g : Nat} {e : TypeId} {xs : List Value} (h : CellsO own i w g e xs) (s : Sn I own w own' w') (hi : ¬ I i) : CellsO own' i w' g e xs :=
  ⟨h.1.later s.keeps (fun e' => hi (h.2 ▸ e')), (s.agree g h.1.lt).trans h.2⟩
theorem Ground.sn {I : Nat → Prop} {own own' : Nat → Nat} {w w' w0 : World} {B : Nat} (h : Ground B w0 own w) (s : Sn I own w own' w') (hi : ¬ I 0) : Ground B w0 own' w' := by
  refine ⟨fun k hlt => (s.agree k (Nat.lt_of_lt_of_le hlt h.size)).trans (h.zero k hlt), below_next h.bel s.keeps h.size (fun k e _ => ?_), Nat.le_trans h.size s.keeps.size⟩
  rcases Nat.lt_or_ge k B with hlt | hge
  · rw [h.zero k hlt] at e; exact absurd e hi
  · exact hge
end Go.Proofs.YtbbldkldgjmmgaaGreatDoor

/-
  slices of bytes that can be read, and parts of them
-/
namespace Go.Proofs.YtbbldkldgjmmgaaGreatDoor
open Go.RowKit

/-- a slice of bytes that can be read, in no block of S -/
def RdS (S : Nat → Prop) (w : World) (v : Value) (ns : List Int) : Prop := ReadsOff S w v (bv ns) ∧ NilOk v
section
variable {S : Nat → Prop} {w w' : World} {v : Value} {ns : List Int}
theorem RdS.rd (h : RdS S w v ns) : Rd w v ns := ⟨h.1.mono (fun _ x _ => x.elim), h.2⟩
theorem RdS.later (h : RdS S w v ns) (hk : Keeps S w w') : RdS (fun k => S k ∨ w.heap.size ≤ k) w' v ns := ⟨h.1.later hk, h.2⟩
theorem RdS.mono {S' : Nat → Prop} (h : RdS S w v ns) (hs : ∀ k, S' k → k < w.heap.size → S k) : RdS S' w v ns := ⟨h.1.mono hs, h.2⟩
theorem RdS.shape (h : RdS S w v ns) : ∃ p c, v = .slice p ns.length c ∧ ns.length ≤ c := by
  obtain ⟨⟨a, c, rfl, hl, _⟩, _⟩ := h
  rw [bv_length] at *
  exact ⟨a, c, rfl, hl⟩
theorem RdS.drop {x : Option Addr} {l c n : Nat} {ns : List Int} (h : RdS S w (.slice x l c) ns) (hn : n ≤ ns.length) : RdS S w (.slice (if c = n then x else x.map (·.add n)) (l - n) (c - n)) (ns.drop n) := by
  cases x with
  | none =>
    have hc := h.2 _ _ rfl
    obtain ⟨⟨a, c', e, hl, hcell⟩, _⟩ := h
    injection e with e1 e2 e3
    rw [bv_length] at e2 hl
    subst e1 e2 e3
    obtain rfl : c = 0 := hc
    have e0 : ns = [] := List.eq_nil_of_length_eq_zero (by omega)
    subst e0
    refine ⟨⟨none, 0, ?_, by simp [bv], fun j u hj => by simp [bv] at hj⟩, fun l' c' e => ?_⟩
    · simp [bv]
    · injection e with _ _ e3; omega
  | some ad =>
    refine ⟨?_, ?_⟩
    · have := h.1.drop n (by rw [bv_length]; exact hn)
      rw [bv_drop]
      simpa using this
    · intro l' c' e
      injection e with e1 _ _
      exfalso
      revert e1
      split <;> simp
/-- a part of a slice of bytes -/
theorem RdS.seg {x : Option Addr} {l c a n : Nat} {ns : List Int} (h : RdS S w (.slice x l c) ns) (hn : a + n ≤ ns.length) : RdS S w (.slice (if c = a then x else x.map (·.add a)) n (c - a)) ((ns.drop a).take n) := by
  have h1 := h.drop (n := a) (by omega)
  refine ⟨?_, fun l' c' e => ?_⟩
  · rw [bv_take]
    exact h1.1.slice n (by rw [bv_length, List.length_drop]; omega)
  · injection e with e1 e2 e3
    exact e3 ▸ h1.2 _ _ (by rw [e1])
end
end Go.Proofs.YtbbldkldgjmmgaaGreatDoor

/-
  a row of bytes by its owner (as in OutE)
-/
namespace Go.Proofs.YtbbldkldgjmmgaaGreatDoor
open Go.RowKit
section
variable {own own' : Nat → Nat} {w w' : World} {I : Nat → Prop}
/-- a row of bytes that is o's -/
def RowB (own : Nat → Nat) (o : Nat) (w : World) (v : Value) (ns : List Int) : Prop := w.ownsRow 0 5 1 v ns.length (bv ns) ∧ ∀ b, v.ownBlock = some b → own b = o
theorem RowB.nil (own : Nat → Nat) (o : Nat) (w : World) : RowB own o w (.slice none 0 0) [] := ⟨World.ownsRow_nil _ _ _ _, fun b hb => by simp [Value.ownBlock] at hb⟩
theorem RowB.sn {o : Nat} {v : Value} {ns : List Int} (h : RowB own o w v ns) (s : Sn I own w own' w') (ho : ¬ I o) : RowB own' o w' v ns :=
  ⟨owns_later h.1 s.keeps (fun b hb e => ho (h.2 b hb ▸ e)), fun b hb => (s.agree b (owns_lt h.1 b hb)).trans (h.2 b hb)⟩
theorem RowB.rd {o : Nat} {v : Value} {ns : List Int} (h : RowB own o w v ns) : Rd w v ns := OwnB.rd (B := 0) h.1
theorem RowB.shape {o : Nat} {v : Value} {ns : List Int} (h : RowB own o w v ns) : ∃ p c, v = .slice p ns.length c := OwnB.shape (B := 0) h.1
/-- behind an append -/
theorem RowB.app {o : Nat} {v v' : Value} {ns ms : List Int} (h : RowB own o w v ns) (o1 : w'.ownsRow 0 5 1 v' ms.length (bv ms)) (k1 : Keeps (fun b => v.ownBlock = some b) w w') (b1 : ∀ b, v'.ownBlock = some b → v.ownBlock = some b ∨ w.heap.size ≤ b) :
    RowB (give own w.heap.size o) o w' v' ms ∧ Sn (fun k => k = o) own w (give own w.heap.size o) w' := by
  refine ⟨⟨o1, fun b hb => ?_⟩, ⟨fun _ hk => give_old hk, k1.mono (fun b hb _ => h.2 b hb)⟩⟩
  rcases b1 b hb with e | e
  · exact (give_old (owns_lt h.1 b e)).trans (h.2 b e)
  · exact give_new e
end
end Go.Proofs.YtbbldkldgjmmgaaGreatDoor

/-
  bytes that are read, by the owner of their block (as in OutA)
-/
namespace Go.Proofs.YtbbldkldgjmmgaaGreatDoor
open Go.RowKit

/-- bytes that are read, in a block that is j's -/
def RdO (own : Nat → Nat) (j : Nat) (w : World) (v : Value) (ns : List Int) : Prop := Rd w v ns ∧ ∀ g, v.ownBlock = some g → g < w.heap.size ∧ own g = j
theorem Rd.keep {S : Nat → Prop} {w w' : World} {v : Value} {ns : List Int} (h : Rd w v ns) (hk : Keeps S w w') (hs : ∀ g, v.ownBlock = some g → ¬ S g) : Rd w' v ns := by
  obtain ⟨⟨a, c, rfl, hl, hc⟩, hn⟩ := h
  refine ⟨⟨a, c, rfl, hl, fun k u hj => ?_⟩, hn⟩
  obtain ⟨x, hx, hn', hcell⟩ := hc k u hj
  refine ⟨x, hx, hn', ?_⟩
  rw [World.cell?_of_block (w := w) (hk.block _ (World.block_lt_of_cell? w _ hcell) (by rw [add_block]; exact hs _ (by rw [hx]; rfl)))]
  exact hcell
theorem RdO.sn {I : Nat → Prop} {own own' : Nat → Nat} {w w' : World} {j : Nat} {v : Value} {ns : List Int} (h : RdO own j w v ns) (s : Sn I own w own' w') (hj : ¬ I j) : RdO own' j w' v ns :=
  ⟨h.1.keep s.keeps (fun g hg e => hj ((h.2 g hg).2 ▸ e)), fun g hg => ⟨Nat.lt_of_lt_of_le (h.2 g hg).1 s.keeps.size, (s.agree g (h.2 g hg).1).trans (h.2 g hg).2⟩⟩

theorem RdO.shape {own : Nat → Nat} {j : Nat} {w : World} {v : Value} {ns : List Int} (h : RdO own j w v ns) : ∃ a c, v = .slice a ns.length c := h.1.shape
theorem Rd.at {w : World} {r : List Int} {v : Value} (h : Rd w v r) (hn : r ≠ []) : ∃ g o c, v = .slice (some ⟨g, o, none⟩) r.length c ∧ r.length ≤ c ∧ ∀ k u, (bv r)[k]? = some u → w.cell? ⟨g, o + k, none⟩ = some u := by
  obtain ⟨⟨a, c, rfl, hl, hcell⟩, _⟩ := h
  obtain ⟨y, ys, rfl⟩ : ∃ y ys, r = y :: ys := by
    cases r with
    | nil => exact absurd rfl hn
    | cons y ys => exact ⟨_, _, rfl⟩
  obtain ⟨ad, ha, _, hce⟩ := hcell 0 (.int .u8 y) rfl
  subst ha
  obtain ⟨g, o, sp⟩ := ad
  cases sp with
  | none =>
    refine ⟨g, o, c, by rw [bv_length], by rw [bv_length] at hl; exact hl, fun k u hk => ?_⟩
    obtain ⟨x, hx, _, h2⟩ := hcell k u hk
    cases hx
    rw [add_none] at h2
    exact h2
  | some s =>
    unfold World.cell? at hce
    have hs : ((⟨g, o, some s⟩ : Addr).add 0).spot.isSome = true := by rfl
    rw [hs] at hce
    split at hce <;> simp at hce
theorem rd_mk {w : World} {r : List Int} {g o l c : Nat} (hl : r.length = l) (hc : l ≤ c) (h : ∀ k u, (bv r)[k]? = some u → w.cell? ⟨g, o + k, none⟩ = some u) : Rd w (.slice (some ⟨g, o, none⟩) l c) r :=
  ⟨⟨_, c, by rw [bv_length, hl], by rw [bv_length]; omega, fun k u hk => ⟨_, rfl, fun x => x, by rw [add_none]; exact h k u hk⟩⟩, fun l c e => by injection e with e; cases e⟩
end Go.Proofs.YtbbldkldgjmmgaaGreatDoor

