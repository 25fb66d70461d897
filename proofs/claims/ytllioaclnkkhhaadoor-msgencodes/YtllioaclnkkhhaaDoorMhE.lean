/-
  culvertlaw27.MsgEncodes
-/
import Derived.Test.YtllioaclnkkhhaaDoorMhM
import Derived.Test.YtllioaclnkkhhaaDoorOpenB
import Derived.Deep.DeepCutAuto
namespace Go.Proofs.YtllioaclnkkhhaaDoor
open Go.RowKit

section
variable {A : Nat → Addr} {w w' W w0 : World} {own own' : Nat → Nat} {p p' most : Nat} {bs ms : List Int} {v fv ev : Value}
/-- a row written over: the j-th byte -/
theorem RowB.put {k j l c : Nat} {q : Option Addr} {ns : List Int} (h : RowB own k W (.slice q l c) ns) (hj : j < ns.length) (u : Int) : ∃ g, q = some ⟨g, 0, none⟩ ∧ W.frozen? ⟨g, j, none⟩ = false ∧ (∃ x, W.cell? ⟨g, j, none⟩ = some (.int .u8 x)) ∧ RowB own k (W.setCell ⟨g, j, none⟩ (.int .u8 u)) (.slice q l c) (ns.set j u) ∧ Sn (fun i => i = k) own W own (W.setCell ⟨g, j, none⟩ (.int .u8 u)) := by
  have h1 := h.1
  rcases id h1.2 with ⟨e, h0⟩ | ⟨g, cap, cur, e, _, _⟩
  · omega
  · injection e with e1 e2 e3
    subst e1 e2 e3
    have hcell := h1.cells rfl j (.int .u8 (ns[j]'hj)) (by simp [bv, hj])
    rw [add_none, Nat.zero_add] at hcell
    have ho : own g = k := h.2 g rfl
    have h2 := owns_setCell h1 j (by omega) (.int .u8 u)
    refine ⟨g, rfl, owns_frozen h1 j, ⟨_, hcell⟩, ⟨?_, h.2⟩, ⟨fun _ _ => rfl, (Keeps.refl _ _).setCell _ _ (fun _ => ho)⟩⟩
    have e4 : (bv ns).set j (.int .u8 u) = bv (ns.set j u) := by simp [bv, List.map_set]
    rw [e4] at h2
    rw [List.length_set]
    exact h2
/-- who owns what, by the worlds in which the rows were laid -/
def own5 (a b c d : Nat) : Nat → Nat := fun k => if k < a then 0 else if k < b then 13 else if k < c then 14 else if k < d then 11 else 12
theorem OwnB.rowB {B k : Nat} {ns : List Int} (h : OwnB B W v ns) (ho : ∀ g, B ≤ g → g < W.heap.size → own g = k) : RowB own k W v ns := ⟨owns_any h, fun b hb => ho b (owns_base h b hb) (owns_lt h b hb)⟩
theorem encV_bytes (hb : AreBytes ms) (x : Int) : AreBytes (encV ms x) := by
  by_cases h0 : encE ms x = 0
  · have hl : ms.length < 2097152 := by
      unfold encE at h0
      split at h0
      · cases h0
      · split at h0
        · cases h0
        · omega
    unfold encV
    rw [if_pos h0]
    intro y hy
    unfold encM at hy
    rcases List.mem_append.1 hy with hy | hy
    · unfold lenB at hy
      split at hy
      · simp at hy; omega
      · split at hy <;> simp at hy <;> omega
    · exact hb y hy
  · unfold encV
    rw [if_neg h0]
    intro y hy
    cases hy
set_option maxRecDepth 20000 in
set_option maxHeartbeats 8000000 in
theorem msgEncodes_walk (v : Value) (ms : List Int) (most : Int) (w : World) (hs : Sents 86 codeVars A w) (hv : BytesArg w v ms) (hwf : (Lit.int .i64 most).wf = true) : Calls Tryd.prog 4 #[v, .int .i64 most] w fun e w' => e = .returned (.bool true) ∧ Below w.heap.size w w' := by
  obtain ⟨hr, hb, hl⟩ := hv
  have hz : -9223372036854775808 ≤ most ∧ most ≤ 9223372036854775807 := bounds_i64 hwf
  clear hwf
  obtain ⟨q, c, rfl⟩ := hr.shape
  obtain ⟨n, hn⟩ : ∃ n, ms.length = n := ⟨_, rfl⟩
  rw [hn] at hr hl ⊢
  have HN := Aside.mk hn
  have HR := Aside.mk hr
  have HS := Aside.mk hs
  have F := Aside.mk (fixed27 hs)
  have HB := Aside.mk hb
  have HZ := Aside.mk hz
  clear hs hr hb hn hz
  go_enter Tryd.func4, Tryd.ntmps4
  go_upto_region 3 with (first | (go_at_call 13; refine F.it.mono ?_; clear F; rintro e w1 ⟨rfl, B1⟩) | fail)
  have DE := Aside.mk (dEncode (w := w1) (HR.it.later B1.it) (by rw [HN.it]; omega) HZ.it)
  go_upto_region 4 with (first | (go_at_call 14; refine DE.it.mono ?_; clear DE; rintro e w2 ⟨qw, lw, cw, rfl, O2, K2⟩) | fail)
  obtain ⟨w3, c3, run3, M3⟩ : ∃ w3 c3, Aside ((Instr.makeSlice 28 (.int .i64 0) (.int .i64 ((n + 2 : Nat) : Int))).run Tryd.prog w2 = .ok (.slice (some ⟨w2.heap.size, 0, none⟩) 0 c3) w3) ∧ Aside (Ny w2 w3 (.slice (some ⟨w2.heap.size, 0, none⟩) 0 c3) []) := by
    obtain ⟨i, hi, hz0, hz1, hz2⟩ := info_parts u8info
    have h := run_make (P := Tryd.prog) w2 28 5 i _ Tryd.underlying28 hi hz0 .i64 .i64 0 (n + 2) (by omega) (by omega) (by rw [hz2]; omega) (by omega)
    exact ⟨_, _, ⟨h⟩, ⟨⟨World.ownsRow_made w2 _ _ (Nat.le_refl _) (by unfold maxLen; omega) (by simp [madeCells, hz1]), (Keeps.refl _ _).alloc _⟩⟩⟩
  obtain ⟨n2, hn2⟩ : ∃ n2, n + 2 = n2 := ⟨_, rfl⟩
  rw [hn2] at run3
  have q0 : IntKind.i64.wrap ((n : Int) + 2) = (n2 : Int) := by rw [IntKind.wrap_i64]; omega
  have q1 : (n : Int) + 2 = (n2 : Int) := by omega
  have B2 : Aside (Below w.heap.size w w2) := ⟨B1.it.trans (K2.it.bel.mono B1.it.size)⟩
  have RM3 : Aside (Rd w3 (.slice q n c) ms) := ⟨HR.it.later (B2.it.trans (M3.it.k.bel.mono B2.it.size))⟩
  have bnd3 : Aside (([] : List Int).length + ms.length ≤ 140737488355328) := ⟨by rw [HN.it]; simp; omega⟩
  have HN2 := Aside.mk hn2
  clear hn2
  go_upto_region 5 with (first
    | (refine wpList_make0 rfl (.tmp 25) 28 rfl n2 rfl w3 _ run3.it ?_; clear run3 q0 q1)
    | (at_builtin; refine wpList_appendB rfl (.tmp 26) (.tmp 27) rfl w2.heap.size (.slice (some ⟨w2.heap.size, 0, none⟩) 0 c3) (.slice q n c) [] ms M3.it.row RM3.it bnd3.it M3.it.k.size rfl rfl ?_; intro v4 w4 O4 B4; obtain ⟨q4, l4, c4, rfl⟩ : ∃ q l c, v4 = .slice q l c := by obtain ⟨x, y, e⟩ := OwnB.shape O4.it; exact ⟨_, _, _, e⟩
       have N4 : Aside (Ny w2 w4 (.slice q4 l4 c4) ([] ++ ms)) := ⟨Ny.app M3.it.k O4.it B4.it⟩
       have OWL := Aside.mk (OwnB.mono (ownB_lit w4 [91, 92] 2 rfl (by omega)) (Nat.zero_le _))
       have NL : Aside (OwnB w2.heap.size (w4.alloc (.cells (bv [91, 92]).toArray 5)) (.slice q4 l4 c4) ([] ++ ms) ∧ Keeps Nowhere w2 (w4.alloc (.cells (bv [91, 92]).toArray 5))) := ⟨N4.it.row.later ((Keeps.refl Nowhere w4).alloc _).bel, N4.it.k.alloc _⟩
       have bnd4 : Aside ((([] : List Int) ++ ms).length + [(91 : Int), 92].length ≤ 140737488355328) := ⟨by rw [List.nil_append, HN.it]; simp; omega⟩)
    | (at_builtin; refine wpList_appendB rfl (.tmp 28) (.tmp 29) rfl w2.heap.size (.slice q4 l4 c4) (.slice (some ⟨w4.heap.size, 0, none⟩) 2 2) ([] ++ ms) [91, 92] NL.it.1 (OwnB.rd OWL.it) bnd4.it NL.it.2.size rfl rfl ?_; intro v5 w5 O5 B5; obtain ⟨qh, lh, ch, rfl⟩ : ∃ q l c, v5 = .slice q l c := by obtain ⟨x, y, e⟩ := OwnB.shape O5.it; exact ⟨_, _, _, e⟩)
    | fail)
  have N5 : Aside (Ny w2 w5 (.slice qh lh ch) (ms ++ [91, 92])) := ⟨by have := Ny.app NL.it.2 O5.it B5.it; simpa using this⟩
  clear O4 B4 N4 OWL NL bnd4 O5 B5 M3 RM3 bnd3
  have hlh : Aside (lh = n + 2 ∧ lh ≤ ch) := ⟨by
    obtain ⟨_, _, e⟩ := OwnB.shape N5.it.row
    injection e with _ e _
    have h := N5.it.row.rd.1.len
    rw [bv_length] at h
    rw [List.length_append, HN.it] at e h
    simp at e h
    omega⟩
  have R5 : Aside (Rd w5 (.slice qh n ch) ms) := ⟨by
    have := N5.it.row.first (k := n) (by rw [List.length_append, HN.it]; omega)
    rw [List.take_append_of_le_length (by rw [HN.it]; exact Nat.le_refl _), List.take_of_length_le (by rw [HN.it]; exact Nat.le_refl _)] at this
    exact this⟩
  have B5 : Aside (Below w.heap.size w w5) := ⟨B2.it.trans (N5.it.k.bel.mono B2.it.size)⟩
  have E6 := Aside.mk (encodeM (A := A) (most := most) R5.it (by rw [HN.it]; omega) (HS.it.later B5.it))
  have y0 : (n : Int) ≤ (ch : Int) := by have := hlh.it; omega
  go_upto_region 7 with (first
    | (go_at_call 11; refine E6.it.mono ?_; clear E6; rintro e w6 ⟨q6, l6, c6, ev6, rfl, C6, O6, K6⟩)
    | fail)
  have B6 : Aside (Below w.heap.size w w6) := ⟨B5.it.trans (K6.it.bel.mono B5.it.size)⟩
  have E7 := Aside.mk (encodeM (A := A) (most := most) (R5.it.later K6.it.bel) (by rw [HN.it]; omega) (HS.it.later B6.it))
  go_upto_region 8 with (first
    | (go_at_call 11; refine E7.it.mono ?_; clear E7; rintro e w7 ⟨q7, l7, c7, ev7, rfl, C7, O7, K7⟩)
    | fail)
  have B7 : Aside (Below w.heap.size w w7) := ⟨B6.it.trans (K7.it.bel.mono B6.it.size)⟩
  have sz1 := K2.it.size
  have sz2 := N5.it.k.size
  have sz5 := K6.it.size
  have sz6 := K7.it.size
  obtain ⟨own7, hown⟩ : ∃ own7, own7 = own5 w1.heap.size w2.heap.size w5.heap.size w6.heap.size := ⟨_, rfl⟩
  have k26 : Keeps Nowhere w2 w6 := N5.it.k.trans K6.it
  have k57 : Keeps Nowhere w5 w7 := K6.it.trans K7.it
  have RWt : Aside (RowB own7 13 w7 (.slice qw lw cw) (encV ms most)) := ⟨(OwnB.rowB (own := own7) O2.it (fun g h1 h2 => by rw [hown]; unfold own5; rw [if_neg (by omega), if_pos h2])).sn (I := fun _ => False) (Sn.same (k26.trans K7.it)) (fun x => x)⟩
  have RWh : Aside (RowB own7 14 w7 (.slice qh lh ch) (ms ++ [91, 92])) := ⟨(OwnB.rowB (own := own7) N5.it.row (fun g h1 h2 => by rw [hown]; unfold own5; rw [if_neg (by omega), if_neg (by omega), if_pos h2])).sn (I := fun _ => False) (Sn.same k57) (fun x => x)⟩
  have RA : Aside (RowB own7 11 w7 (.slice q6 l6 c6) (encV ms most)) := ⟨(OwnB.rowB (own := own7) O6.it (fun g h1 h2 => by rw [hown]; unfold own5; rw [if_neg (by omega), if_neg (by omega), if_neg (by omega), if_pos h2])).sn (I := fun _ => False) (Sn.same K7.it) (fun x => x)⟩
  have RB : Aside (RowB own7 12 w7 (.slice q7 l7 c7) (encV ms most)) := ⟨OwnB.rowB (own := own7) O7.it (fun g h1 h2 => by rw [hown]; unfold own5; rw [if_neg (by omega), if_neg (by omega), if_neg (by omega), if_neg (by omega)])⟩
  have G7 : Aside (Ground w.heap.size w own7 w7) := ⟨⟨fun k hk => by rw [hown]; unfold own5; rw [if_pos (by have := B1.it.size; omega)], B7.it, B7.it.size⟩⟩
  obtain ⟨S, hS⟩ : ∃ S, strOf (encV ms most) = S := ⟨_, rfl⟩
  obtain ⟨T, hT⟩ : ∃ T, strOf ms = T := ⟨_, rfl⟩
  have HSt := Aside.mk (And.intro hS hT)
  have RD : ∀ x, Rd (w7.drewN x) (.slice qw lw cw) (encV ms most) ∧ Rd (w7.drewN x) (.slice q6 l6 c6) (encV ms most) ∧ Rd (w7.drewN x) (.slice q7 l7 c7) (encV ms most) ∧ Rd (w7.drewN x) (.slice qh n ch) ms ∧ Rd (w7.drewN x) (.slice q n c) ms := fun x => by
    have k := (Keeps.refl Nowhere w7).drewN x
    exact ⟨RWt.it.rd.later k.bel, RA.it.rd.later k.bel, RB.it.rd.later k.bel, R5.it.later (k57.trans k).bel, HR.it.later (B7.it.trans (k.bel.mono B7.it.size))⟩
  have V1 : ∀ x, (convert 28 9 (.slice qw lw cw)).run Tryd.prog (w7.drewN x) = .ok (.string S) (w7.drewN x) := fun x => by rw [← hS]; exact rd_conv27 (RD x).1
  have V2 : ∀ x, (convert 28 9 (.slice q6 l6 c6)).run Tryd.prog (w7.drewN x) = .ok (.string S) (w7.drewN x) := fun x => by rw [← hS]; exact rd_conv27 (RD x).2.1
  have V3 : ∀ x, (convert 28 9 (.slice q7 l7 c7)).run Tryd.prog (w7.drewN x) = .ok (.string S) (w7.drewN x) := fun x => by rw [← hS]; exact rd_conv27 (RD x).2.2.1
  have V4 : ∀ x, (convert 28 9 (.slice qh n ch)).run Tryd.prog (w7.drewN x) = .ok (.string T) (w7.drewN x) := fun x => by rw [← hT]; exact rd_conv27 (RD x).2.2.2.1
  have V5 : ∀ x, (convert 28 9 (.slice q n c)).run Tryd.prog (w7.drewN x) = .ok (.string T) (w7.drewN x) := fun x => by rw [← hT]; exact rd_conv27 (RD x).2.2.2.2
  obtain ⟨gh, oh, cch, eh, _, hch⟩ := Rd.at RWh.it.rd (by simp)
  injection eh with eh1 eh2 eh3
  subst eh1 eh3
  have d1 : w7.cell? ⟨gh, oh + n, none⟩ = some (.int .u8 91) := hch n _ (by simp [bv, HN.it])
  have d2 : w7.cell? ⟨gh, oh + (n + 1), none⟩ = some (.int .u8 92) := hch (n + 1) _ (by simp [bv, HN.it])
  obtain ⟨ee, hee⟩ : ∃ ee, encE ms most = ee := ⟨_, rfl⟩
  have CC : Aside (Hid (Coded A ev6 ee) ∧ Hid (Coded A ev7 ee)) := ⟨hee ▸ C6, hee ▸ C7⟩
  have CQ : Aside ((∀ x, Calls Tryd.prog 10 #[ev6] (w7.drewN x) fun e w' => e = .returned (.int .i64 ee) ∧ ∃ m, w' = w7.drewN m) ∧ ∀ x, Calls Tryd.prog 10 #[ev7] (w7.drewN x) fun e w' => e = .returned (.int .i64 ee) ∧ ∃ m, w' = w7.drewN m) := ⟨fun x => (code_of (HS.it.later (B7.it.trans (((Keeps.refl Nowhere w7).drewN x).bel.mono B7.it.size))) CC.it.1.out).mono (by rintro e w' ⟨rfl, rfl⟩; exact ⟨rfl, x, rfl⟩), fun x => (code_of (HS.it.later (B7.it.trans (((Keeps.refl Nowhere w7).drewN x).bel.mono B7.it.size))) CC.it.2.out).mono (by rintro e w' ⟨rfl, rfl⟩; exact ⟨rfl, x, rfl⟩)⟩
  rw [hee]
  have g0 : (ee != ee) = false := by simp
  obtain ⟨hlh1, hlh2⟩ := hlh.it
  have y4 : (n : Int) < (lh : Int) := by omega
  have y5 : (n : Int) + 1 < (lh : Int) := by omega
  clear eh2 hch RD hS hT hee C6 C7 O2 O6 O7 K2 K6 K7 N5 B2 B5 B6 R5 k26 k57 hown
  go_upto_region 8 with fail
  go_quiet (first
    | (go_at_call_of 10 ev6; exact CQ.it.1 _)
    | (go_at_call_of 10 ev7; exact CQ.it.2 _))
  have k8 : Keeps Nowhere w7 (w7.drewN nq) := (Keeps.refl _ _).drewN _
  have RA8 : Aside (RowB own7 11 (w7.drewN nq) (.slice q6 l6 c6) (encV ms most)) := ⟨RA.it.sn (I := fun _ => False) (Sn.same k8) (fun x => x)⟩
  have RB8 : Aside (RowB own7 12 (w7.drewN nq) (.slice q7 l7 c7) (encV ms most)) := ⟨RB.it.sn (I := fun _ => False) (Sn.same k8) (fun x => x)⟩
  have RW8 : Aside (RowB own7 13 (w7.drewN nq) (.slice qw lw cw) (encV ms most)) := ⟨RWt.it.sn (I := fun _ => False) (Sn.same k8) (fun x => x)⟩
  have RH8 : Aside (RowB own7 14 (w7.drewN nq) (.slice (some ⟨gh, oh, none⟩) lh ch) (ms ++ [91, 92])) := ⟨RWh.it.sn (I := fun _ => False) (Sn.same k8) (fun x => x)⟩
  have G8 : Aside (Ground w.heap.size w own7 (w7.drewN nq)) := ⟨G7.it.quiet k8⟩
  obtain ⟨vb, hvb⟩ : ∃ vb, encV ms most = vb := ⟨_, rfl⟩
  rw [hvb] at RA8 RB8 RW8
  have HVB := Aside.mk hvb
  have hla : Aside (vb.length = l6) := ⟨by obtain ⟨_, _, e⟩ := RA8.it.shape; injection e with _ e _; exact e.symm⟩
  have hl6 : l6 ≤ n + 3 := by
    rw [← hla.it, ← HVB.it, ← HN.it]
    unfold encV
    split
    · unfold encM; rw [List.length_append]; have := (lenB_len ms.length).2; omega
    · simp
  have hlhh : Aside ((ms ++ [91, 92]).length = lh) := ⟨by rw [List.length_append, HN.it, hlh1]; rfl⟩
  clear k8 RA RB RWt RWh G7 V1 V2 V3 V4 V5 d1 d2 CQ CC hvb
  generalize w7.drewN nq = W8 at RA8 RB8 RW8 RH8 G8 ⊢
  go_upto_region 11 with fail
  go_loopw [99] (fun iv wr => ∃ (i : Nat) (xs : List Int), iv = .int .i64 i ∧ i ≤ l6 ∧ xs.length = l6 ∧ Aside (RowB own7 11 wr (.slice q6 l6 c6) xs ∧ Sn (fun k => k = 11) own7 W8 own7 wr)) (fun iv _ => l6 - natG iv)
  case atStart => exact ⟨0, vb, rfl, Nat.zero_le _, hla.it, ⟨RA8.it, Sn.refl _ _ _⟩⟩
  case round =>
    obtain ⟨i, xs, rfl, hi, hxl, X⟩ := hrel
    rcases Nat.eq_or_lt_of_le hi with e | hlt
    · subst e
      have RH9 : Aside (RowB own7 14 wr (.slice (some ⟨gh, oh, none⟩) lh ch) (ms ++ [91, 92])) := ⟨RH8.it.sn X.it.2 (by decide)⟩
      have RB9 : Aside (RowB own7 12 wr (.slice q7 l7 c7) vb) := ⟨RB8.it.sn X.it.2 (by decide)⟩
      have RW9 : Aside (RowB own7 13 wr (.slice qw lw cw) vb) := ⟨RW8.it.sn X.it.2 (by decide)⟩
      have G9 : Aside (Ground w.heap.size w own7 wr) := ⟨G8.it.sn X.it.2 (by decide)⟩
      clear X RA8 RB8 RW8 RH8 G8 hi
      generalize wr = W9 at RH9 RB9 RW9 G9 ⊢
      go_upto_region 16 with fail
      go_loopw [108] (fun iv wr => ∃ (i : Nat) (xs : List Int), iv = .int .i64 i ∧ i ≤ lh ∧ xs.length = lh ∧ Aside (RowB own7 14 wr (.slice (some ⟨gh, oh, none⟩) lh ch) xs ∧ Sn (fun k => k = 14) own7 W9 own7 wr)) (fun iv _ => lh - natG iv)
      case atStart => exact ⟨0, ms ++ [91, 92], rfl, Nat.zero_le _, hlhh.it, ⟨RH9.it, Sn.refl _ _ _⟩⟩
      case round =>
        obtain ⟨i, xs, rfl, hi, hxl, X⟩ := hrel
        rcases Nat.eq_or_lt_of_le hi with e | hlt
        · subst e
          have GE := G9.it.sn X.it.2 (by decide)
          obtain ⟨S2, hS2⟩ : ∃ S2, strOf vb = S2 := ⟨_, rfl⟩
          have V1 := rd_conv27 (RB9.it.sn X.it.2 (by decide)).rd
          have V2 := rd_conv27 (RW9.it.sn X.it.2 (by decide)).rd
          rw [hS2] at V1 V2
          have BE := Aside.mk GE.bel
          clear X RH9 RB9 RW9 G9 GE hS2
          go_wp2_with fail
          go_ret
          exact ⟨by simp, BE.it⟩
        · obtain ⟨g, eg, fz, ⟨u0, cu⟩, X2, S2⟩ := X.it.1.put (j := i) (by rw [hxl]; exact hlt) 102
          injection eg with eg
          injection eg with eg1 eg2
          subst eg1 eg2
          have X3 : Aside (RowB own7 14 (wr.setCell ⟨gh, i, none⟩ (.int .u8 102)) (.slice (some ⟨gh, 0, none⟩) lh ch) (xs.set i 102) ∧ Sn (fun k => k = 14) own7 W9 own7 (wr.setCell ⟨gh, i, none⟩ (.int .u8 102))) := ⟨X2, X.it.2.trans S2⟩
          have hlt' : (i : Int) < (lh : Int) := by omega
          clear X2 S2 X
          go_wp2_with fail
          go_roundw
          case rel => exact ⟨i + 1, xs.set i 102, by go_num, by omega, by rw [List.length_set]; exact hxl, X3⟩
          case measure => simp [natG]; omega
    · obtain ⟨g, rfl, fz, ⟨u0, cu⟩, X2, S2⟩ := X.it.1.put (j := i) (by rw [hxl]; exact hlt) 85
      have X3 : Aside (RowB own7 11 (wr.setCell ⟨g, i, none⟩ (.int .u8 85)) (.slice (some ⟨g, 0, none⟩) l6 c6) (xs.set i 85) ∧ Sn (fun k => k = 11) own7 W8 own7 (wr.setCell ⟨g, i, none⟩ (.int .u8 85))) := ⟨X2, X.it.2.trans S2⟩
      have hlt' : (i : Int) < (l6 : Int) := by omega
      clear X2 S2 X
      go_wp2_with fail
      go_roundw
      case rel => exact ⟨i + 1, xs.set i 85, by go_num, by omega, by rw [List.length_set]; exact hxl, X3⟩
      case measure => simp [natG]; omega
end
end Go.Proofs.YtllioaclnkkhhaaDoor
