/-
  RobinKeys: its world
-/
import Derived.Test.YtekokdfajbajoaaDoorRkL
import Derived.Test.YtekokdfajbajoaaDoorRbW
import Derived.Test.YtekokdfajbajoaaDoorRf12b
import Derived.Test.YtekokdfajbajoaaDoorOpenR
import Derived.Test.YtekokdfajbajoaaDoorShelf
import Derived.Lib.AppendIntMem
namespace Go.Proofs.YtekokdfajbajoaaDoor
open Go.RowKit Rbkey

variable {w w' w0 : World} {own own' : Nat → Nat} {r g : Nat} {ks ys zs : List Int} {v v' : Value} {I : Nat → Prop} {kind k : Int}

theorem RdI.keeps {S : Nat → Prop} (h : RdI w v ys) (hk : Keeps S w w') (hn : ∀ b, v.ownBlock = some b → ¬ S b) : RdI w' v ys := by
  obtain ⟨sa, sc, rfl, h1, h2, h3⟩ := h
  refine ⟨sa, sc, rfl, h1, h2, fun k z hz => ?_⟩
  obtain ⟨hb, sb, so, rfl, hc⟩ := h3 k z hz
  refine ⟨hb, sb, so, rfl, ?_⟩
  have hlt := World.block_lt_of_cell? w _ hc
  have e := hk.block sb hlt (hn sb rfl)
  unfold World.cell? at hc ⊢
  rw [e]
  exact hc
def PowT (w : World) : Prop := Lib.TabIs Tryd.prog w "internal/strconv.uint64pow10" .u64 Lib.pow10Tab
theorem powT_later (h : PowT w) (hb : Below w.heap.size w w') : PowT w' := by
  have hg : Tryd.prog.globalNamed "internal/strconv.uint64pow10" = some 0 := by kernel_rfl
  unfold PowT Lib.TabIs at h ⊢
  rw [← h]
  simp only [World.var?, hg, Option.bind_some]
  rw [hb.block 0 ?_]
  have hc := World.var?_cell hg h 0
  have : w.cell? ⟨0, 0, none⟩ = some (.int .u64 1) := by rw [hc]; rfl
  exact World.block_lt_of_cell? w _ this
theorem below_growK (w : World) (k : Nat) (os : Array Obj) : Below w.heap.size w (Go.Sort.grow (w.drewN k) os) := by
  refine ⟨rfl, rfl, rfl, ?_, fun b hb => ?_⟩
  · simp [Go.Sort.grow]
  · show (w.heap ++ os)[b]? = w.heap[b]?
    exact Array.getElem?_append_left hb

/-- a robin of keys, the document's list, the powers of ten -/
structure Kx (w0 : World) (own : Nat → Nat) (w : World) (r : Nat) (ks : List Int) (v : Value) (ys : List Int) : Prop where
  g : Ground w0.heap.size w0 own w
  pow : PowT w0
  rb : RbO own 1 w r ks
  li : RdI w v ys
  mine : ∀ b, v.ownBlock = some b → b < w.heap.size ∧ own b = 2
theorem Kx.sn (h : Kx w0 own w r ks v ys) (s : Sn I own w own' w') (hi : ∀ k, k < 3 → ¬ I k) : Kx w0 own' w' r ks v ys :=
  ⟨h.g.sn s (hi 0 (by decide)), h.pow, h.rb.sn s (hi 1 (by decide)), h.li.keeps s.keeps (fun b hb x => hi 2 (by decide) ((h.mine b hb).2 ▸ x)), fun b hb => ⟨Nat.lt_of_lt_of_le (h.mine b hb).1 s.keeps.size, (s.agree _ (h.mine b hb).1).trans (h.mine b hb).2⟩⟩
theorem Kx.quiet (h : Kx w0 own w r ks v ys) (k : Keeps Nowhere w w') : Kx w0 own w' r ks v ys := h.sn (I := fun _ => False) (Sn.same k) (fun _ _ x => x)
theorem Kx.ref (h : Kx w0 own w r ks v ys) (k : Keeps Nowhere w w') (hl : LiN w w' v v' zs) : Kx w0 (give own w.heap.size 2) w' r ks v' zs := by
  have s : Sn (fun _ => False) own w (give own w.heap.size 2) w' := Sn.quiet k _
  refine ⟨h.g.sn s (fun x => x), h.pow, h.rb.sn s (fun x => x), hl.1, fun b hb => ?_⟩
  rcases hl.2 b hb with e | ⟨e1, e2⟩
  · obtain ⟨m1, m2⟩ := h.mine b e
    exact ⟨Nat.lt_of_lt_of_le m1 k.size, (give_old m1).trans m2⟩
  · exact ⟨e2, give_new e1⟩
theorem Kx.rbs (h : Kx w0 own w r ks v ys) (H : Keeps (fun c => own c = 1) w w' ∧ RbO (give own w.heap.size 1) 1 w' r zs) : Kx w0 (give own w.heap.size 1) w' r zs v ys := by
  have s : Sn (fun k => k = 1) own w (give own w.heap.size 1) w' := Sn.by H.1 _
  exact ⟨h.g.sn s (by decide), h.pow, H.2, h.li.keeps s.keeps (fun b hb x => by have := (h.mine b hb).2; omega), fun b hb => ⟨Nat.lt_of_lt_of_le (h.mine b hb).1 s.keeps.size, (s.agree _ (h.mine b hb).1).trans (h.mine b hb).2⟩⟩
theorem itoaK (hp : PowT w) (n : Int) (hn : -9223372036854775808 ≤ n ∧ n ≤ 9223372036854775807) : Calls Tryd.prog 6 #[.int .i64 n] w fun e w' => e = .returned (.string ⟨(Lib.itoa n).toArray⟩) ∧ Keeps Nowhere w w' := by
  refine (Tryd.strconv_Itoa n hn.1 hn.2 w hp).mono ?_
  rintro e w' ⟨rfl, k, os, rfl⟩
  exact ⟨rfl, Keeps.ofBelow (below_growK w k os)⟩
/-- a key's two parts, as the walk meets them -/
theorem kt_of (n : Int) (hn : Ky n) : ∃ ib : ByteArray, (⟨(Lib.itoa n).toArray⟩ : ByteArray) = ib ∧ kt n = .string (⟨#[107]⟩ ++ ib) ∧ ib.size ≤ 21 := by
  have h := itoa_len n hn
  have e : (⟨#[107]⟩ : ByteArray) ++ ⟨(Lib.itoa n).toArray⟩ = ⟨(107 :: Lib.itoa n).toArray⟩ := by
    apply ByteArray.ext
    simp
  exact ⟨_, rfl, by rw [e]; rfl, by simpa [ByteArray.size] using h⟩
theorem kn_of (n : Int) : ∃ nx : Int, kn n = .int .u32 nx ∧ ∀ W, (convert 3 26 (.int .i64 n)).run Tryd.prog W = .ok (.int .u32 nx) W := by
  refine ⟨_, rfl, fun W => ?_⟩
  simp [go_sem]
end Go.Proofs.YtekokdfajbajoaaDoor
