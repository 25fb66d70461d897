/-
  layer 19: PipePieces' world
-/
import Derived.Test.YtpmmjekaefemeaaDoorPqA
import Derived.Test.YtpmmjekaefemeaaDoorSn
import Derived.Test.YtpmmjekaefemeaaDoorOpenU
namespace Go.Proofs.YtpmmjekaefemeaaDoor
open Go.RowKit

section
variable {own own' own2 : Nat → Nat} {w w' w0 W : World} {BS : List Int} {x : Value} {p at' tk : Nat} {I : Nat → Prop}

theorem Ground.cellG {a : Addr} {x : Value} (hg : Ground w0.heap.size w0 own W) (h : w0.cell? a = some x) : W.cell? a = some x := by
  rw [hg.bel.cell (World.block_lt_of_cell? w0 _ h)]; exact h
/-- at bytes were put, tk of them are out -/
structure Qw (w0 : World) (own : Nat → Nat) (W : World) (p : Nat) (BS : List Int) (at' tk : Nat) (x : Value) : Prop where
  g : Ground w0.heap.size w0 own W
  t : PpO own 10 W p ((BS.take at').drop tk) tk false
  o : RowB own 9 W x (BS.take tk)
  l : tk ≤ at' ∧ at' ≤ BS.length
theorem Qw.quiet (h : Qw w0 own W p BS at' tk x) (hk : Keeps Nowhere W w') : Qw w0 own w' p BS at' tk x := ⟨h.g.quiet hk, h.t.quiet hk, h.o.sn (I := fun _ => False) (Sn.same hk) (fun x => x), h.l⟩
theorem Qw.step (h : Qw w0 own W p BS at' tk x) (hk : Keeps Nowhere W w') (r : Nat) : Qw w0 (give own W.heap.size r) w' p BS at' tk x := ⟨h.g.sn (I := fun _ => False) (Sn.quiet hk r) (fun x => x), h.t.step hk r, h.o.sn (I := fun _ => False) (Sn.quiet hk r) (fun x => x), h.l⟩
theorem Qw.len (h : Qw w0 own W p BS at' tk x) : ((BS.take at').drop tk).length = at' - tk := by have := h.l; rw [List.length_drop, List.length_take]; omega
theorem qw_len (h : Aside (Qw w0 own W p BS at' tk x)) (hb : BS.length ≤ 1048576) : Calls Tryd.prog 13 #[ptr p] W fun e w' => e = .returned (.int .i64 ((at' - tk : Nat) : Int)) ∧ Aside (Qw w0 own w' p BS at' tk x) := by
  have hl := h.it.len
  have := h.it.l
  refine (len19 h.it.t (by omega)).mono ?_
  rintro e w' ⟨rfl, K⟩
  exact ⟨by rw [hl], ⟨h.it.quiet K.it⟩⟩
theorem qw_passed (h : Aside (Qw w0 own W p BS at' tk x)) : Calls Tryd.prog 15 #[ptr p] W fun e w' => e = .returned (.int .u64 tk) ∧ Aside (Qw w0 own w' p BS at' tk x) := by
  refine (passed19 h.it.t).mono ?_
  rintro e w' ⟨rfl, hw⟩
  exact ⟨rfl, ⟨by rw [hw]; exact h.it⟩⟩
theorem qw_broken (h : Aside (Qw w0 own W p BS at' tk x)) : Calls Tryd.prog 16 #[ptr p] W fun e w' => e = .returned (.bool false) ∧ Aside (Qw w0 own w' p BS at' tk x) := by
  refine (broken19 h.it.t).mono ?_
  rintro e w' ⟨rfl, hw⟩
  exact ⟨rfl, ⟨by rw [hw]; exact h.it⟩⟩
theorem qw_put (h : Aside (Qw w0 own W p BS at' tk x)) (hb : BS.length ≤ 1048576) {v : Value} {k : Nat} (hk : at' + k ≤ BS.length) (hv : Rd W v ((BS.drop at').take k)) : Calls Tryd.prog 11 #[ptr p, v] W fun e w' => ∃ own2, e = .returned (.tuple #[.int .i64 k, .nilIface]) ∧ Aside (Qw w0 own2 w' p BS (at' + k) tk x) := by
  have hl := h.it.len
  have hll := h.it.l
  have hvl : ((BS.drop at').take k).length = k := by rw [List.length_take, List.length_drop]; omega
  refine (put19 h.it.t hv (by omega)).mono ?_
  rintro e w' ⟨own2, rfl, X⟩
  refine ⟨own2, by rw [hvl], ⟨h.it.g.sn X.it.2 (by decide), ?_, h.it.o.sn X.it.2 (by decide), by omega⟩⟩
  have e1 : (BS.take at').drop tk ++ (BS.drop at').take k = (BS.take (at' + k)).drop tk := by
    rw [List.take_add, List.drop_append_of_le_length (by rw [List.length_take]; omega)]
  rw [← e1]
  exact X.it.1
theorem qw_move (h : Aside (Qw w0 own W p BS at' tk x)) (hb : BS.length ≤ 1048576) (n : Int) {k : Nat} (hk : k = min n.toNat (at' - tk)) : Calls Tryd.prog 14 #[ptr p, .int .i64 n] W fun e w' => ∃ a c own2, e = .returned (.slice a k c) ∧ Aside (RowB own2 19 w' (.slice a k c) ((BS.drop tk).take k) ∧ Ground w0.heap.size w0 own2 w' ∧ PpO own2 10 w' p ((BS.take at').drop (tk + k)) (tk + k) false ∧ RowB own2 9 w' x (BS.take tk)) := by
  have hl := h.it.len
  have hll := h.it.l
  refine (move19 h.it.t n (by omega) 19).mono ?_
  rintro e w' ⟨a, l, c, own2, rfl, X⟩
  obtain ⟨x1, _, x2, x3⟩ := X.it
  have e1 : ((BS.take at').drop tk).take n.toNat = (BS.drop tk).take k := by
    rw [List.drop_take, List.take_take, hk]
  have e2 : ((BS.drop tk).take k).length = k := by rw [List.length_take, List.length_drop]; omega
  have e3 : ((BS.take at').drop tk).drop n.toNat = (BS.take at').drop (tk + k) := by
    rw [List.drop_drop]
    by_cases e : n.toNat ≤ at' - tk
    · rw [hk, Nat.min_eq_left e]
    · rw [List.drop_of_length_le (by rw [List.length_take]; omega), List.drop_of_length_le (by rw [List.length_take]; omega)]
  rw [e1] at x1 x2
  rw [e2, e3, Nat.mod_eq_of_lt (by omega)] at x2
  obtain ⟨a', c', hs⟩ := x1.shape
  rw [e2] at hs
  injection hs with _ s2 _
  subst s2
  exact ⟨a, c, own2, rfl, ⟨x1, h.it.g.sn x3 (by decide), x2, h.it.o.sn x3 (by decide)⟩⟩
/-- what was moved is appended -/
theorem Qw.app {k : Nat} {x2 : Value} (hg : Ground w0.heap.size w0 own W) (ht : PpO own 10 W p ((BS.take at').drop (tk + k)) (tk + k) false) (ho : RowB own 9 W x (BS.take tk)) (hl : tk + k ≤ at' ∧ at' ≤ BS.length)
    (o1 : w'.ownsRow 0 5 1 x2 (BS.take tk ++ (BS.drop tk).take k).length (bv (BS.take tk ++ (BS.drop tk).take k))) (k1 : Keeps (fun b => x.ownBlock = some b) W w') (b1 : ∀ b, x2.ownBlock = some b → x.ownBlock = some b ∨ W.heap.size ≤ b) : Qw w0 (give own W.heap.size 9) w' p BS at' (tk + k) x2 := by
  obtain ⟨r3, s3⟩ := ho.app o1 k1 b1
  rw [← List.take_add] at r3
  exact ⟨hg.sn s3 (by decide), ht.sn s3 (by decide) (by decide) (by decide), r3, hl⟩
end
end Go.Proofs.YtpmmjekaefemeaaDoor
