/-
  strings.Builder by the block it lies in: WriteByte, WriteString, String (of whatever program that has them). The first part is TrF's.
-/
import Derived.Test.YtbbldkldgjmmgaaGreatDoorTxt
import Derived.Test.YtbbldkldgjmmgaaGreatDoorSma
import Derived.Test.YtbbldkldgjmmgaaGreatDoorTpP
import Derived.Test.YtbbldkldgjmmgaaGreatDoorKeQ
import Derived.Test.YtbbldkldgjmmgaaGreatDoorTCodedZ
import Derived.Test.YtbbldkldgjmmgaaGreatDoorShelf
import Derived.Lib.Builder
import Derived.Lib.AppendStr
import Derived.Laws.Concat
import Derived.Laws.OwnMore
import Derived.Deep.QuietTactic
import Derived.Deep.RegionHeld3
import Derived.Deep.RegionHeldLaw
import Derived.Deep.DeepCutAuto
import Derived.Deep.CutBlock
import Derived.Handy
import Derived.BigQuiet
import Derived.BigRegion
namespace Go.Proofs.YtbbldkldgjmmgaaGreatDoor
open Go.RowKit Go.Maps

variable {w w' w1 : World} {b : Nat} {v : Value}
def nums (l : List UInt8) : List Int := l.map fun x => (x.toNat : Int)
theorem bv_nums (l : List UInt8) : bv (nums l) = Lib.byteCells l := by simp [bv, nums, Lib.byteCells, List.map_map, Function.comp_def]
theorem bv_str (l : List UInt8) : Lib.strCells (str l) = bv (nums l) := by simp [bv, nums, Lib.strCells, List.map_map, Function.comp_def]
theorem nums_append (a b : List UInt8) : nums (a ++ b) = nums a ++ nums b := by simp [nums]
theorem nums_len (a : List UInt8) : (nums a).length = a.length := by simp [nums]
theorem str_size (l : List UInt8) : (str l).size = l.length := by simp [ByteArray.size]
theorem cells_row_ne {w : World} {b : Nat} {t e : TypeId} {cs : List Value} {v : Value} {n : Nat} {xs : List Value} {base m : Nat} (hc : Cells w b t cs) (hr : w.ownsRow base e m v n xs) (ht : t ≠ e) : v.ownBlock ≠ some b := fun hb => by
  rcases hr.2 with ⟨rfl, _⟩ | ⟨g, cap, cur, rfl, _, hg, _⟩
  · cases hb
  · simp only [Value.ownBlock, Option.some.injEq] at hb
    subst hb
    unfold Cells at hc
    rw [hc] at hg
    injection hg with hg
    simp only [Obj.cells.injEq] at hg
    exact ht hg.2.1
theorem add_str (a b : List UInt8) (h : a.length + b.length ≤ 9223372036854775807) (W : World) : (Op.stringOp .add (str a) (str b)).run Tryz.prog W = .ok (.string (str (a ++ b))) W := by
  rw [run_string_add_sum (P := Tryz.prog) W (str a) (str b) (by rw [str_size, str_size]; exact h), str_append]
/-- a builder: its block b, its bytes l, its row in a block not below B -/
structure Bld (B : Nat) (w : World) (b : Nat) (v : Value) (l : List UInt8) : Prop where
  c : ∃ x, Cells w b 76 [.pointer x, v] ∧ (x = none ∨ x = some ⟨b, 0, none⟩)
  r : w.ownsRow B 5 1 v l.length (bv (nums l))
theorem Bld.lt {B : Nat} {l : List UInt8} (h : Bld B w b v l) : b < w.heap.size := by obtain ⟨x, hc, _⟩ := h.c; exact hc.lt
theorem Bld.later {B : Nat} {l : List UInt8} {S : Nat → Prop} (h : Bld B w b v l) (hk : Keeps S w w') (hb : ¬ S b) (hv : ∀ g, v.ownBlock = some g → ¬ S g) : Bld B w' b v l := by
  obtain ⟨x, hc, hx⟩ := h.c
  exact ⟨⟨x, hc.later hk hb, hx⟩, owns_later h.r hk (fun y hy => hv y hy)⟩
theorem Bld.is {B C : Nat} {l : List UInt8} (h : Bld B w b v l) (hC : C ≤ B) (hb : C ≤ b) : Lib.IsBuilder 76 5 C b (Lib.byteCells l) w := by
  obtain ⟨x, hc, hx⟩ := h.c
  have hr : w.ownsRow C 5 1 v l.length (bv (nums l)) := by
    have := OwnB.mono (B' := C) (ns := nums l) (by unfold OwnB; rw [nums_len]; exact h.r) hC
    unfold OwnB at this
    rw [nums_len] at this
    exact this
  rw [bv_nums] at hr
  have hne := cells_row_ne hc h.r (by decide)
  have hl : l.length = (Lib.byteCells l).length := by simp [Lib.byteCells]
  rw [hl] at hr
  have key : ∀ p, x = p → Lib.BuilderAt 76 5 C b (.pointer p) (Lib.byteCells l) w := fun p e => by subst e; exact ⟨hb, v, hc, hr, hne⟩
  rcases hx with e | e
  · exact .inl (key _ e)
  · exact .inr (key _ e)
theorem bsize : (Tryz.prog.info? 76).map (·.size) = some 2 := by kernel_rfl
theorem blies : liesAt Tryz.prog Tryz.prog.depth 76 (2 / Tryz.prog.cellsOf 76) 0 76 1 = true := by kernel_rfl
theorem noEsc (w : World) (x : Value) : (callFunc 75 #[x]).run Tryz.prog w = .ok (.value x) w := by
  rw [run_callFunc_extern Tryz.func75 (by kernel_rfl) (by kernel_rfl) (by kernel_rfl) (e := Extern.AbiNoEscape.same) (by kernel_rfl), Lib.run_noEscape]
  rfl
set_option maxRecDepth 100000 in
set_option maxHeartbeats 1000000 in
theorem check_at {x : Option Addr} (hc : Cells w b 76 [.pointer x, v]) (hx : x = none ∨ x = some ⟨b, 0, none⟩) :
    Calls Tryz.prog 57 #[ptr b] w fun e w' => e = .returned (.tuple #[]) ∧ Aside (Cells w' b 76 [.pointer (some ⟨b, 0, none⟩), v] ∧ Keeps (fun k => k = b) w w') := by
  obtain ⟨j, hj, hjs⟩ := Option.map_eq_some_iff.1 bsize
  have c0 : w.cell? ⟨b, 0, none⟩ = some (.pointer x) := by rw [hc.cell]; rfl
  have f0 := hc.frozen 0
  have HC := Aside.mk hc
  rcases hx with rfl | rfl
  · have hsh : w.shape? b = some (76, 2) := by unfold Cells at hc; simp [World.shape?, hc]
    have q1 := Lib.run_to_unsafe w ⟨b, 0, none⟩ Tryz.underlying74 Tryz.underlying126 hj (by rw [hjs]; decide) hsh (Nat.zero_lt_succ 1)
    have q2 := noEsc w (.pointer (some ⟨b, 0, none⟩))
    have q3 := Lib.run_from_unsafe w ⟨b, 0, none⟩ Tryz.underlying126 Tryz.underlying74 hj hsh blies
    clear hc hsh
    go_enter Tryz.func57, Tryz.ntmps57
    go_wp2
    go_end0
    exact ⟨rfl, ⟨HC.it.setCell 0 (.pointer (some ⟨b, 0, none⟩)), (Keeps.refl _ _).setCell _ _ (fun _ => rfl)⟩⟩
  · clear hc
    go_enter Tryz.func57, Tryz.ntmps57
    go_wp2
    rw [Lib.run_neq_ptr_same w _ Tryz.underlying74 hj]
    go_wp2
    go_end0
    exact ⟨rfl, ⟨HC.it, Keeps.refl _ _⟩⟩
set_option maxRecDepth 100000 in
set_option maxHeartbeats 1000000 in
theorem ws_at {B : Nat} {l s : List UInt8} (h : Bld B w b v l) (hB : B ≤ w.heap.size) (hl : l.length + s.length ≤ 140737488355328) :
    Calls Tryz.prog 33 #[ptr b, .string (str s)] w fun e w' => ∃ v', e = .returned (.tuple #[.int .i64 s.length, .nilIface]) ∧ Aside (Bld B w' b v' (l ++ s) ∧ Keeps (fun k => k = b ∨ v.ownBlock = some k) w w') := by
  obtain ⟨i0, hi, hz0, hz1, hz2⟩ := info_parts u8info
  obtain ⟨x, hc, hx⟩ := h.c
  have CK := Aside.mk (check_at hc hx)
  have HR := Aside.mk h.r
  have hne := Aside.mk (cells_row_ne hc h.r (by decide))
  have hsz : (str s).size = s.length := str_size s
  obtain ⟨q, c, rfl⟩ := owns_val h.r
  clear h hc hx
  go_enter Tryz.func33, Tryz.ntmps33
  go_upto_region 2 with (first | (go_at_call 57; refine CK.it.mono ?_; rintro e w1 ⟨rfl, X1⟩) | fail)
  have D1 := Aside.mk X1.it.1
  have K1 := Aside.mk X1.it.2
  have R1 := Aside.mk (owns_later HR.it K1.it (fun y hy e => hne.it (by rw [hy, e])))
  have c1 : w1.cell? ⟨b, 1, none⟩ = some (.slice q l.length c) := by rw [D1.it.cell]; rfl
  have hB1 : B ≤ w1.heap.size := Nat.le_trans hB K1.it.size
  clear X1 CK HR
  go_upto_region 3 with (first
    | (at_builtin; refine Lib.wpList_append_own_string _ rfl _ _ 32 9 rfl B 5 i0 Tryz.underlying32 Tryz.underlying9 hi hz0 hz1 hz2 _ _ _ rfl R1.it (str s) rfl (by rw [hsz]; unfold maxLen; omega) (by rw [hsz]; omega) hB1 ?_
       intro v2 w2 hown2 hg2 _
       have O2 := Aside.mk hown2
       have K2 := Aside.mk (grown_keeps hg2)
       have D2 := Aside.mk (D1.it.later K2.it hne.it)
       obtain ⟨q2, c2, hv2⟩ := owns_val hown2
       subst hv2
       have e1 : w2.cell? ⟨b, 1, none⟩ = some (.slice q l.length c) := (by rw [D2.it.cell]; rfl)
       have f1 := D2.it.frozen 1
       clear hown2 hg2)
    | fail)
  have D3 := Aside.mk (D2.it.setCell 1 (.slice q2 (l.length + s.length) c2))
  have K3 : Aside (Keeps (fun k => k = b) w2 (w2.setCell ⟨b, 1, none⟩ (.slice q2 (l.length + s.length) c2))) := ⟨(Keeps.refl _ _).setCell _ _ (fun _ => rfl)⟩
  generalize w2.setCell ⟨b, 1, none⟩ (.slice q2 (l.length + s.length) c2) = w3 at D3 K3 ⊢
  clear e1 f1 c1
  go_wp2_with fail
  go_ret2
  have e0 : bv (nums l) ++ Lib.strCells (str s) = bv (nums (l ++ s)) := by rw [bv_str, nums_append, bv_append]
  have e1 : l.length + s.length = (l ++ s).length := by rw [List.length_append]
  have r2 := O2.it
  rw [e0, hsz, e1] at r2
  have d3 := D3.it
  rw [e1] at d3
  refine ⟨.slice q2 (l ++ s).length c2, rfl, ⟨⟨⟨_, d3, .inr rfl⟩, owns_later r2 K3.it (fun y hy e => cells_row_ne D2.it r2 (by decide) (by rw [hy, e]))⟩, ?_⟩⟩
  exact ((K1.it.mono (fun _ e _ => .inl e)).trans (K2.it.mono (fun _ e _ => .inr e))).trans (K3.it.mono (fun _ e _ => .inl e))
theorem string_at {B C : Nat} {l : List UInt8} (h : Bld B w b v l) (hC : C ≤ B) (hb : C ≤ b) (hB : B ≤ w.heap.size) : Calls Tryz.prog 36 #[ptr b] w fun e w' => e = .returned (.string (str l)) ∧ Aside (Below C w w') := by
  refine (Tryz.Builder_String_any C b l w (h.is hC hb) (Nat.le_trans hC hB)).mono ?_
  rintro e w' ⟨rfl, hb⟩
  exact ⟨rfl, ⟨hb⟩⟩
attribute [-go_sem] Builtin.append_
/-- append(row, c) -/
theorem rowOne {B m : Nat} {ns : List Int} (c : Int) (h : w.ownsRow B 5 1 v ns.length (bv ns)) (hB : B ≤ w.heap.size) (hb : ns.length + 1 ≤ 140737488355328) (hm : ns.length + 1 = m) :
    ∃ (a : Option Addr) (cp : Nat) (w' : World), (∀ ty, (Builtin.append_ #[32, 32] ty #[v, .slice (some ⟨w.heap.size, 0, none⟩) 1 1]).run Tryz.prog (w.alloc (.cells #[.int .u8 c] 5)) = .ok (.slice a m cp) w') ∧ Aside (w'.ownsRow B 5 1 (.slice a m cp) m (bv (ns ++ [c])) ∧ Keeps (fun k => v.ownBlock = some k) w w') := by
  obtain ⟨i, hi, hz0, hz1, hz2⟩ := info_parts u8info
  have K : Keeps Nowhere w (w.alloc (.cells #[.int .u8 c] 5)) := (Keeps.refl _ _).alloc _
  have h2 := owns_later h K (fun _ _ x => x)
  have hown' : (w.alloc (.cells #[.int .u8 c] 5)).ownsRow B 5 1 v (bv ns).length (bv ns) := by rw [bv_length]; exact h2
  have hx : Rd (w.alloc (.cells #[.int .u8 c] 5)) (.slice (some ⟨w.heap.size, 0, none⟩) 1 1) [c] := rd_mk (r := [c]) rfl (Nat.le_refl _) (fun k u hk => by
    cases k with
    | zero => simp [bv] at hk; subst hk; exact (Cells.new w 5 [.int .u8 c]).cell 0
    | succ k => simp [bv] at hk)
  obtain ⟨v', w', run, o', g'⟩ := run_appendK (P := Tryz.prog) (w.alloc (.cells #[.int .u8 c] 5)) B 32 5 i _ 1 Tryz.underlying32 hi hz0 hz1 hz2 rfl v (bv ns) hown' (.slice (some ⟨w.heap.size, 0, none⟩) 1 1) (bv [c]) hx.1 hx.2 (bv_one [c]) (by rw [bv_length, bv_length]; simp; omega) (by rw [bv_length, bv_length]; unfold maxLen; simp; omega) (Nat.le_trans hB K.size)
  have e : (bv ns).length + (bv [c]).length = m := by rw [bv_length, bv_length, List.length_singleton]; exact hm
  rw [← bv_append, bv_length, List.length_append, List.length_singleton, hm] at o'
  obtain ⟨a, cp, e2⟩ := owns_val o'
  subst e2
  exact ⟨a, cp, w', run, ⟨o', (K.mono (fun _ e _ => e.elim)).trans (grown_keeps g')⟩⟩
theorem nums_snoc (l : List UInt8) {c : Int} (h0 : 0 ≤ c) (h1 : c ≤ 255) : nums l ++ [c] = nums (l ++ [UInt8.ofNat c.toNat]) := by
  rw [nums_append]
  congr 1
  show [c] = [((UInt8.ofNat c.toNat).toNat : Int)]
  rw [UInt8.toNat_ofNat']
  congr 1
  omega
set_option maxRecDepth 100000 in
set_option maxHeartbeats 1000000 in
theorem wb_at {B : Nat} {l : List UInt8} {c : Int} (h0 : 0 ≤ c) (h1 : c ≤ 255) (h : Bld B w b v l) (hB : B ≤ w.heap.size) (hl : l.length + 1 ≤ 140737488355328) :
    Calls Tryz.prog 34 #[ptr b, .int .u8 c] w fun e w' => ∃ v', e = .returned .nilIface ∧ Aside (Bld B w' b v' (l ++ [UInt8.ofNat c.toNat]) ∧ Keeps (fun k => k = b ∨ v.ownBlock = some k) w w') := by
  obtain ⟨x, hc, hx⟩ := h.c
  have CK := Aside.mk (check_at hc hx)
  have HR := Aside.mk h.r
  have hne := Aside.mk (cells_row_ne hc h.r (by decide))
  obtain ⟨q, c0, rfl⟩ := owns_val h.r
  have EN := Aside.mk (nums_snoc l h0 h1)
  clear h hc hx
  go_enter Tryz.func34, Tryz.ntmps34
  go_upto_region 2 with (first | (go_at_call 57; refine CK.it.mono ?_; rintro e w1 ⟨rfl, X1⟩) | fail)
  have D1 := Aside.mk X1.it.1
  have K1 := Aside.mk X1.it.2
  have R1 := Aside.mk (owns_later HR.it K1.it (fun y hy e => hne.it (by rw [hy, e])))
  have c1 : w1.cell? ⟨b, 1, none⟩ = some (.slice q l.length c0) := by rw [D1.it.cell]; rfl
  have hB1 : B ≤ w1.heap.size := Nat.le_trans hB K1.it.size
  clear X1 CK HR
  have R1' := R1.it
  rw [← nums_len l] at R1'
  obtain ⟨q2, c2, w2, run2, X2⟩ := rowOne (m := l.length + 1) c R1' hB1 (by rw [nums_len]; exact hl) (by rw [nums_len])
  rw [nums_len] at run2 X2
  clear R1'
  have D2 := Aside.mk (D1.it.later X2.it.2 (fun e => hne.it e))
  have e1 : w2.cell? ⟨b, 1, none⟩ = some (.slice q l.length c0) := (by rw [D2.it.cell]; rfl)
  have f1 := D2.it.frozen 1
  go_upto_region 3 with fail
  have D3 := Aside.mk (D2.it.setCell 1 (.slice q2 (l.length + 1) c2))
  have K3 : Aside (Keeps (fun k => k = b) w2 (w2.setCell ⟨b, 1, none⟩ (.slice q2 (l.length + 1) c2))) := ⟨(Keeps.refl _ _).setCell _ _ (fun _ => rfl)⟩
  generalize w2.setCell ⟨b, 1, none⟩ (.slice q2 (l.length + 1) c2) = w3 at D3 K3 ⊢
  clear e1 f1 c1
  go_wp2_with fail
  go_ret
  have r2 := X2.it.1
  rw [EN.it] at r2
  have e2 : l.length + 1 = (l ++ [UInt8.ofNat c.toNat]).length := by rw [List.length_append]; rfl
  have d3 := D3.it
  rw [e2] at d3 r2
  refine ⟨.slice q2 (l ++ [UInt8.ofNat c.toNat]).length c2, rfl, ⟨⟨⟨_, d3, .inr rfl⟩, owns_later r2 K3.it (fun y hy e => cells_row_ne D2.it r2 (by decide) (by rw [hy, e]))⟩, ?_⟩⟩
  exact ((K1.it.mono (fun _ e _ => .inl e)).trans (X2.it.2.mono (fun _ e _ => .inr e))).trans (K3.it.mono (fun _ e _ => .inl e))
end Go.Proofs.YtbbldkldgjmmgaaGreatDoor
