/-
  RobinKeys: what a round leans on
-/
import Derived.Test.YtekokdfajbajoaaDoorRkK
import Derived.Deep.RegionWith
namespace Go.Proofs.YtekokdfajbajoaaDoor
open Go.RowKit Rbkey

variable {w w' w0 : World} {own own' : Nat → Nat} {r g : Nat} {ks ys zs : List Int} {v v' : Value} {I : Nat → Prop} {kind k : Int}

theorem op_at {zs : List OpV12} {sa : Option Addr} {m : Nat} {wr : World} (hat : ∀ i z, zs[i]? = some z → ∃ b o cs, sa = some ⟨b, o, none⟩ ∧ Op12Ok z cs ∧ cs.length = 2 ∧ ∀ j, j < 2 → w.cell? ⟨b, o + i * 2 + j, none⟩ = cs[j]?) (hm : m < zs.length) (hb : Below w.heap.size w wr) :
    ∃ (b o : Nat) (kind k : Int), sa = some ⟨b, o, none⟩ ∧ (-9223372036854775808 ≤ k ∧ k ≤ 9223372036854775807) ∧ wr.cell? ⟨b, o + m * 2, none⟩ = some (.int .i64 kind) ∧ wr.cell? ⟨b, o + m * 2 + 1, none⟩ = some (.int .i64 k) := by
  obtain ⟨sb, so, cs, rfl, ⟨hcs, hk⟩, _, hc⟩ := hat m _ (List.getElem?_eq_getElem hm)
  subst hcs
  have ev0 : ∀ {q v}, w.cell? q = some v → wr.cell? q = some v := fun {q v} h => by rw [World.cell?_of_block (hb.block _ (World.block_lt_of_cell? w _ h))]; exact h
  exact ⟨sb, so, _, _, rfl, hk, ev0 (hc 0 (by decide)), ev0 (hc 1 (by decide))⟩
/-- what stays of the call's box while texts are made -/
structure Bx (w1 : World) (g : Nat) (kind k : Int) (W : World) : Prop where
  keeps : Keeps Nowhere w1 W
  cells : Cells W g 31 [.int .i64 kind, .int .i64 k]
theorem Bx.k1 {w1 : World} (h : Aside (Bx w1 g kind k w)) : w.cell? ⟨g, 1, none⟩ = some (.int .i64 k) := h.it.cells.cell 1
theorem set2_cell {gk : Nat} {x y u : Value} (hne : g ≠ gk) (h : w.cell? ⟨g, 1, none⟩ = some u) : ((w.setCell ⟨gk, 0, none⟩ x).setCell ⟨gk, 1, none⟩ y).cell? ⟨g, 1, none⟩ = some u := by
  have k : Keeps (fun c => c = gk) w ((w.setCell ⟨gk, 0, none⟩ x).setCell ⟨gk, 1, none⟩ y) := ((Keeps.refl (fun c => c = gk) w).setCell ⟨gk, 0, none⟩ x (fun _ => rfl)).setCell ⟨gk, 1, none⟩ y (fun _ => rfl)
  rw [World.cell?_of_block (k.block g (World.block_lt_of_cell? w _ h) hne)]
  exact h
theorem Bx.next {w1 : World} (h : Aside (Bx w1 g kind k w)) (kk : Keeps Nowhere w w') : Aside (Bx w1 g kind k w') := ⟨⟨h.it.keeps.trans kk, h.it.cells.later kk (fun x => x)⟩⟩
theorem Bx.fresh {w1 : World} {gk : Nat} (h : Aside (Bx w1 g kind k w)) (hg : w1.heap.size ≤ gk) (hne : g ≠ gk) (x y : Value) : Bx w1 g kind k ((w.setCell ⟨gk, 0, none⟩ x).setCell ⟨gk, 1, none⟩ y) :=
  ⟨(h.it.keeps.setCell ⟨gk, 0, none⟩ x (fun e => absurd e (by show ¬ gk < _; omega))).setCell ⟨gk, 1, none⟩ y (fun e => absurd e (by show ¬ gk < _; omega)), (h.it.cells.setOther ⟨gk, 0, none⟩ x hne).setOther ⟨gk, 1, none⟩ y hne⟩
theorem key_same (b : ByteArray) (n : Int) (W : World) : (Op.equalIn 10000 28 (.agg #[.string b, .int .u32 n]) (.agg #[.string b, .int .u32 n])).run Tryd.prog W = .ok true W := by
  have hst : Tryd.prog.stoodInHeld 28 = false := by kernel_rfl
  have hfo : Tryd.prog.underlying 28 = some (.struct (Tryd.prog.fieldsOf 28)) := by kernel_rfl
  rw [run_equalIn_agg (P := Tryd.prog) (w := W) 9999 28 _ _ hfo hst]
  clear hst hfo
  simp only [Program.fieldsOf, Tryd.underlying28]
  simp [Op.eqFields, go_sem]
theorem nk_nil : nk [] = .agg #[.string ⟨#[]⟩, .int .u32 0] := rfl
theorem nk_cons (x : Int) (t : List Int) : nk (x :: t) = .agg #[kt x, kn x] := rfl
theorem frst_nil : frst (0 : Int) [] = 0 := rfl
theorem frst_cons (x : Int) (t : List Int) : frst 0 (x :: t) = x := rfl
theorem some1_nil : some1 ([] : List Int) = false := rfl
theorem some1_cons (x : Int) (t : List Int) : some1 (x :: t) = true := rfl
/-- what stays of the key's box while a text is made -/
structure Kb (w1 : World) (g : Nat) (x y : Value) (W : World) : Prop where
  keeps : Keeps Nowhere w1 W
  cells : Cells W g 28 [x, y]
theorem Kb.two {w1 : World} {x y : Value} (h : Aside (Kb w1 g x y w)) : w.cell? ⟨g, 0, none⟩ = some x ∧ w.cell? ⟨g, 1, none⟩ = some y := ⟨h.it.cells.cell 0, h.it.cells.cell 1⟩
/-- the worlds behind texts that were made -/
structure KbW (w1 : World) (g : Nat) (x y : Value) where
  W : World
  ok : Kb w1 g x y W
theorem wp_region_quietF {P : Program} {κ : Type} (F : κ → World) {id : Nat} {Q : Exit → Act → World → Prop} {a : Act} {w : World} {l : List Oper} (hm : P.follows .mixedOrders = true) (hB : Region.lexB .any l.toArray = true) (n0 : κ) (h0 : F n0 = w.drew)
    (h : wpQuiet P l.toArray (fun w' => ∃ n, w' = F n) (fun a' => ∀ w', (∃ n, w' = F n) → Q .normal a' w') l a) : (Code.region id l.toArray true).wp P Q a w :=
  wp_region_quiet (C := fun w' => ∃ n, w' = F n) hm hB ⟨n0, h0.symm⟩ (by simpa using h)
theorem kb_itoa {w1 : World} {x y : Value} (hp : PowT w1) (n : Int) (hn : -9223372036854775808 ≤ n ∧ n ≤ 9223372036854775807) (s : KbW w1 g x y) : Calls Tryd.prog 6 #[.int .i64 n] s.W fun e w' => e = .returned (.string ⟨(Lib.itoa n).toArray⟩) ∧ ∃ m : KbW w1 g x y, w' = m.W := by
  refine (itoaK (powT_later hp (s.ok.keeps.bel)) n hn).mono ?_
  rintro e w' ⟨rfl, kk⟩
  exact ⟨rfl, ⟨w', ⟨s.ok.keeps.trans kk, s.ok.cells.later kk (fun x => x)⟩⟩, rfl⟩
/-- the worlds behind quiet calls -/
structure KeW (w1 : World) where
  W : World
  ok : Keeps Nowhere w1 W
theorem KeW.cell {w1 : World} {a : Addr} {u : Value} (h : w1.cell? a = some u) (n : KeW w1) : n.W.cell? a = some u := by
  rw [World.cell?_of_block (n.ok.block a.block (World.block_lt_of_cell? w1 _ h) (fun x => x))]
  exact h
theorem ke_itoa {w1 : World} (hp : PowT w1) (n : Int) (hn : -9223372036854775808 ≤ n ∧ n ≤ 9223372036854775807) (s : KeW w1) : Calls Tryd.prog 6 #[.int .i64 n] s.W fun e w' => e = .returned (.string ⟨(Lib.itoa n).toArray⟩) ∧ ∃ m : KeW w1, w' = m.W := by
  refine (itoaK (powT_later hp s.ok.bel) n hn).mono ?_
  rintro e w' ⟨rfl, kk⟩
  exact ⟨rfl, ⟨w', s.ok.trans kk⟩, rfl⟩
theorem bx_itoa {w1 : World} (hp : PowT w1) (h : Aside (Bx w1 g kind k w)) (n : Int) (hn : -9223372036854775808 ≤ n ∧ n ≤ 9223372036854775807) : Calls Tryd.prog 6 #[.int .i64 n] w fun e w' => e = .returned (.string ⟨(Lib.itoa n).toArray⟩) ∧ Aside (Bx w1 g kind k w') := by
  refine (itoaK (powT_later hp (h.it.keeps.bel)) n hn).mono ?_
  rintro e w' ⟨rfl, kk⟩
  exact ⟨rfl, Bx.next h kk⟩

end Go.Proofs.YtekokdfajbajoaaDoor
