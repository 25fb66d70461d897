/-
  package trace: texts: Itoa, strings.Builder by the block it lies in
-/
import Derived.Test.YtambdgcogldbgaaDoorTrE
import Derived.Lib.Builder
import Derived.Lib.AppendStr
import Derived.Lib.ItoaLen
import Derived.Laws.Concat
namespace Go.Proofs.YtambdgcogldbgaaDoor
open Go.RowKit Go.Maps

variable {w w' w1 : World} {b : Nat} {v : Value}

abbrev str (l : List UInt8) : ByteArray := ⟨l.toArray⟩
def nums (l : List UInt8) : List Int := l.map fun x => (x.toNat : Int)
theorem bv_nums (l : List UInt8) : bv (nums l) = Lib.byteCells l := by simp [bv, nums, Lib.byteCells, List.map_map, Function.comp_def]
theorem bv_str (l : List UInt8) : Lib.strCells (str l) = bv (nums l) := by simp [bv, nums, Lib.strCells, List.map_map, Function.comp_def]
theorem nums_append (a b : List UInt8) : nums (a ++ b) = nums a ++ nums b := by simp [nums]
theorem nums_len (a : List UInt8) : (nums a).length = a.length := by simp [nums]
theorem str_size (l : List UInt8) : (str l).size = l.length := by simp [ByteArray.size]
theorem str_append (a b : List UInt8) : str a ++ str b = str (a ++ b) := by
  apply ByteArray.ext
  simp [ByteArray.data_append]
theorem add_str (a b : List UInt8) (h : a.length + b.length ≤ 9223372036854775807) (W : World) : (Op.stringOp .add (str a) (str b)).run Tryd.prog W = .ok (.string (str (a ++ b))) W := by
  rw [run_string_add_sum (P := Tryd.prog) W (str a) (str b) (by rw [str_size, str_size]; exact h), str_append]
theorem powT_later (h : PowT w) (hb : Below w.heap.size w w') : PowT w' := by
  have hg : Tryd.prog.globalNamed "internal/strconv.uint64pow10" = some 42 := by kernel_rfl
  unfold PowT Lib.TabIs at h ⊢
  rw [← h]
  simp only [World.var?, hg, Option.bind_some]
  rw [hb.block _ ?_]
  have hc := World.var?_cell hg h 0
  have : w.cell? ⟨42, 0, none⟩ = some (.int .u64 1) := by rw [hc]; rfl
  exact World.block_lt_of_cell? w _ this
theorem below_growK (w : World) (k : Nat) (os : Array Obj) : Below w.heap.size w (Go.Sort.grow (w.drewN k) os) := by
  refine ⟨rfl, rfl, rfl, ?_, fun b hb => ?_⟩
  · simp [Go.Sort.grow]
  · show (w.heap ++ os)[b]? = w.heap[b]?
    exact Array.getElem?_append_left hb
theorem itoaK {n : Int} (hp : Aside (PowT w1)) (hk : Aside (Keeps Nowhere w1 w)) (hn : Zw n) : Calls Tryd.prog 38 #[.int .i64 n] w fun e w' => e = .returned (.string (str (Lib.itoa n))) ∧ Aside (Keeps Nowhere w1 w') := by
  refine (Tryd.strconv_Itoa n hn.1 hn.2 w (powT_later hp.it hk.it.bel)).mono ?_
  rintro e w' ⟨rfl, k, os, rfl⟩
  exact ⟨rfl, ⟨hk.it.trans (Keeps.ofBelow (below_growK w k os))⟩⟩
/-- a builder: its block b, its bytes l, its row in a block not below B -/
structure Bld (B : Nat) (w : World) (b : Nat) (v : Value) (l : List UInt8) : Prop where
  c : ∃ x, Cells w b 80 [.pointer x, v] ∧ (x = none ∨ x = some ⟨b, 0, none⟩)
  r : w.ownsRow B 5 1 v l.length (bv (nums l))
theorem Bld.lt {B : Nat} {l : List UInt8} (h : Bld B w b v l) : b < w.heap.size := by obtain ⟨x, hc, _⟩ := h.c; exact hc.lt
theorem Bld.later {B : Nat} {l : List UInt8} {S : Nat → Prop} (h : Bld B w b v l) (hk : Keeps S w w') (hb : ¬ S b) (hv : ∀ g, v.ownBlock = some g → ¬ S g) : Bld B w' b v l := by
  obtain ⟨x, hc, hx⟩ := h.c
  exact ⟨⟨x, hc.later hk hb, hx⟩, owns_later h.r hk (fun y hy => hv y hy)⟩
theorem Bld.is {B C : Nat} {l : List UInt8} (h : Bld B w b v l) (hC : C ≤ B) (hb : C ≤ b) : Lib.IsBuilder 80 5 C b (Lib.byteCells l) w := by
  obtain ⟨x, hc, hx⟩ := h.c
  have hr : w.ownsRow C 5 1 v l.length (bv (nums l)) := by
    have := OwnB.mono (B' := C) (ns := nums l) (by unfold OwnB; rw [nums_len]; exact h.r) hC
    unfold OwnB at this
    rw [nums_len] at this
    exact this
  rw [bv_nums] at hr
  have hne := cells_row_ne hc h.r (by decide)
  have hl : l.length = (Lib.byteCells l).length := by simp [Lib.byteCells]
  rw [hl] at hr
  have key : ∀ p, x = p → Lib.BuilderAt 80 5 C b (.pointer p) (Lib.byteCells l) w := fun p e => by subst e; exact ⟨hb, v, hc, hr, hne⟩
  rcases hx with e | e
  · exact .inl (key _ e)
  · exact .inr (key _ e)
theorem bsize : (Tryd.prog.info? 80).map (·.size) = some 2 := by kernel_rfl
theorem blies : liesAt Tryd.prog Tryd.prog.depth 80 (2 / Tryd.prog.cellsOf 80) 0 80 1 = true := by kernel_rfl
theorem noEsc (w : World) (x : Value) : (callFunc 58 #[x]).run Tryd.prog w = .ok (.value x) w := by
  rw [run_callFunc_extern Tryd.func58 (by kernel_rfl) (by kernel_rfl) (by kernel_rfl) (e := Extern.AbiNoEscape.same) (by kernel_rfl), Lib.run_noEscape]
  rfl
set_option maxRecDepth 100000 in
set_option maxHeartbeats 1000000 in
theorem check_at {x : Option Addr} (hc : Cells w b 80 [.pointer x, v]) (hx : x = none ∨ x = some ⟨b, 0, none⟩) :
    Calls Tryd.prog 45 #[ptr b] w fun e w' => e = .returned (.tuple #[]) ∧ Aside (Cells w' b 80 [.pointer (some ⟨b, 0, none⟩), v] ∧ Keeps (fun k => k = b) w w') := by
  obtain ⟨j, hj, hjs⟩ := Option.map_eq_some_iff.1 bsize
  have c0 : w.cell? ⟨b, 0, none⟩ = some (.pointer x) := by rw [hc.cell]; rfl
  have f0 := hc.frozen 0
  have HC := Aside.mk hc
  rcases hx with rfl | rfl
  · have hsh : w.shape? b = some (80, 2) := by unfold Cells at hc; simp [World.shape?, hc]
    have q1 := Lib.run_to_unsafe w ⟨b, 0, none⟩ Tryd.underlying78 Tryd.underlying117 hj (by rw [hjs]; decide) hsh (Nat.zero_lt_succ 1)
    have q2 := noEsc w (.pointer (some ⟨b, 0, none⟩))
    have q3 := Lib.run_from_unsafe w ⟨b, 0, none⟩ Tryd.underlying117 Tryd.underlying78 hj hsh blies
    clear hc hsh
    go_enter Tryd.func45, Tryd.ntmps45
    go_wp2
    go_end0
    exact ⟨rfl, ⟨HC.it.setCell 0 (.pointer (some ⟨b, 0, none⟩)), (Keeps.refl _ _).setCell _ _ (fun _ => rfl)⟩⟩
  · clear hc
    go_enter Tryd.func45, Tryd.ntmps45
    go_wp2
    rw [Lib.run_neq_ptr_same w _ Tryd.underlying78 hj]
    go_wp2
    go_end0
    exact ⟨rfl, ⟨HC.it, Keeps.refl _ _⟩⟩
set_option maxRecDepth 100000 in
set_option maxHeartbeats 1000000 in
theorem ws_at {B : Nat} {l s : List UInt8} (h : Bld B w b v l) (hB : B ≤ w.heap.size) (hl : l.length + s.length ≤ 140737488355328) :
    Calls Tryd.prog 37 #[ptr b, .string (str s)] w fun e w' => ∃ v', e = .returned (.tuple #[.int .i64 s.length, .nilIface]) ∧ Aside (Bld B w' b v' (l ++ s) ∧ Keeps (fun k => k = b ∨ v.ownBlock = some k) w w') := by
  obtain ⟨i0, hi, hz0, hz1, hz2⟩ := info_parts u8info
  obtain ⟨x, hc, hx⟩ := h.c
  have CK := Aside.mk (check_at hc hx)
  have HR := Aside.mk h.r
  have hne := Aside.mk (cells_row_ne hc h.r (by decide))
  have hsz : (str s).size = s.length := str_size s
  obtain ⟨q, c, rfl⟩ := owns_val h.r
  clear h hc hx
  go_enter Tryd.func37, Tryd.ntmps37
  go_upto_region 2 with (first | (go_at_call 45; refine CK.it.mono ?_; rintro e w1 ⟨rfl, X1⟩) | fail)
  have D1 := Aside.mk X1.it.1
  have K1 := Aside.mk X1.it.2
  have R1 := Aside.mk (owns_later HR.it K1.it (fun y hy e => hne.it (by rw [hy, e])))
  have c1 : w1.cell? ⟨b, 1, none⟩ = some (.slice q l.length c) := by rw [D1.it.cell]; rfl
  have hB1 : B ≤ w1.heap.size := Nat.le_trans hB K1.it.size
  clear X1 CK HR
  go_upto_region 3 with (first
    | (at_builtin; refine Lib.wpList_append_own_string _ rfl _ _ 29 9 rfl B 5 i0 Tryd.underlying29 Tryd.underlying9 hi hz0 hz1 hz2 _ _ _ rfl R1.it (str s) rfl (by rw [hsz]; unfold maxLen; omega) (by rw [hsz]; omega) hB1 ?_
       intro v2 w2 hown2 hg2 _
       have O2 := Aside.mk hown2
       have K2 := Aside.mk (grown_keeps hg2)
       have D2 := Aside.mk (D1.it.later K2.it hne.it)
       obtain ⟨q2, c2, hv2⟩ := owns_val hown2
       subst hv2
       have e1 : w2.cell? ⟨b, 1, none⟩ = some (.slice q l.length c) := (by rw [D2.it.cell]; rfl)
       have f1 := D2.it.frozen 1
       clear hown2 hg2)
    | fail)
  have D3 := Aside.mk (D2.it.setCell 1 (.slice q2 (l.length + s.length) c2))
  have K3 : Aside (Keeps (fun k => k = b) w2 (w2.setCell ⟨b, 1, none⟩ (.slice q2 (l.length + s.length) c2))) := ⟨(Keeps.refl _ _).setCell _ _ (fun _ => rfl)⟩
  generalize w2.setCell ⟨b, 1, none⟩ (.slice q2 (l.length + s.length) c2) = w3 at D3 K3 ⊢
  clear e1 f1 c1
  go_wp2_with fail
  go_ret2
  have e0 : bv (nums l) ++ Lib.strCells (str s) = bv (nums (l ++ s)) := by rw [bv_str, nums_append, bv_append]
  have e1 : l.length + s.length = (l ++ s).length := by rw [List.length_append]
  have r2 := O2.it
  rw [e0, hsz, e1] at r2
  have d3 := D3.it
  rw [e1] at d3
  refine ⟨.slice q2 (l ++ s).length c2, rfl, ⟨⟨⟨_, d3, .inr rfl⟩, owns_later r2 K3.it (fun y hy e => cells_row_ne D2.it r2 (by decide) (by rw [hy, e]))⟩, ?_⟩⟩
  exact ((K1.it.mono (fun _ e _ => .inl e)).trans (K2.it.mono (fun _ e _ => .inr e))).trans (K3.it.mono (fun _ e _ => .inl e))
theorem string_at {B C : Nat} {l : List UInt8} (h : Bld B w b v l) (hC : C ≤ B) (hb : C ≤ b) (hB : B ≤ w.heap.size) : Calls Tryd.prog 39 #[ptr b] w fun e w' => e = .returned (.string (str l)) ∧ Aside (Below C w w') := by
  refine (Tryd.Builder_String_any C b l w (h.is hC hb) (Nat.le_trans hC hB)).mono ?_
  rintro e w' ⟨rfl, hb⟩
  exact ⟨rfl, ⟨hb⟩⟩
end Go.Proofs.YtambdgcogldbgaaDoor
