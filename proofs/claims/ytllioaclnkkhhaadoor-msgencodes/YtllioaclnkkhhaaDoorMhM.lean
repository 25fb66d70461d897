/-
  culvertlaw27.MsgNames
-/
import Derived.Test.YtllioaclnkkhhaaDoorMhC
namespace Go.Proofs.YtllioaclnkkhhaaDoor
open Go.RowKit

section
variable {A : Nat → Addr} {w w' W w0 : World} {own own' : Nat → Nat} {p p' most : Nat} {bs : List Int} {v fv ev : Value}
theorem made_zero (n : Nat) : madeCells (Value.int .u8 0).cells n = (bv (List.replicate n 0)).toArray := by
  apply Array.ext
  · simp [madeCells, bv]
  · intro i h1 h2
    simp [madeCells, bv, Value.cells, Nat.mod_one]
theorem make27 (w : World) (n : Nat) (hn : n ≤ 140737488355328) : ∃ w', Aside ((Instr.makeSlice 28 (.int .i64 n) (.int .i64 n)).run Tryd.prog w = .ok (.slice (some ⟨w.heap.size, 0, none⟩) n n) w') ∧ Aside (Rd w' (.slice (some ⟨w.heap.size, 0, none⟩) n n) (List.replicate n 0) ∧ Keeps Nowhere w w') := by
  obtain ⟨i, hi, hz0, hz1, hz2⟩ := info_parts u8info
  have h := run_make (P := Tryd.prog) w 28 5 i _ Tryd.underlying28 hi hz0 .i64 .i64 n n (by omega) (by omega) (by rw [hz2]; omega) (by omega)
  simp only [Int.toNat_natCast, hz1, Nat.mul_one] at h
  rw [made_zero] at h
  refine ⟨_, ⟨h⟩, ⟨?_, (Keeps.refl _ _).alloc _⟩⟩
  have := rd_const27 w (List.replicate n 0) (0, 0)
  rw [List.length_replicate] at this
  exact this
theorem fx27_3 : outM 0 [] false [0, 0] = ⟨[[], []], [], false⟩ := by
  unfold outM
  rw [if_neg (by decide)]
  have e : ([] ++ [0, 0] : List Int) = [0, 0] := rfl
  rw [e, parseM_more (n := 0) (k := 1) rfl (by decide)]
  have e2 : ([0, 0] : List Int).drop (1 + 0) = [0] := rfl
  rw [e2, parseM_more (n := 0) (k := 1) rfl (by decide)]
  have e3 : ([0] : List Int).drop (1 + 0) = [] := rfl
  rw [e3, parseM_none rfl]
  rfl
theorem fx27_4 : outM 0 [] false [1] = ⟨[], [], true⟩ := by
  unfold outM
  rw [if_neg (by decide)]
  exact parseM_bad rfl
theorem encNames (n : Nat) (hn : n ≤ 1048576) : encE (List.replicate n 0) (n : Int) = 0 ∧ encV (List.replicate n 0) (n : Int) = lenB n ++ List.replicate n 0 := by
  have h : encE (List.replicate n 0) (n : Int) = 0 := by unfold encE; rw [if_neg (by omega), List.length_replicate, if_neg (by omega)]
  exact ⟨h, by unfold encV; rw [if_pos h, encM, List.length_replicate]⟩
/-- the first k bytes of an answer -/
theorem OwnB.first {B k l c : Nat} {q : Option Addr} {ns : List Int} (h : OwnB B W (.slice q l c) ns) (hk : k ≤ ns.length) : Rd W (.slice q k c) (ns.take k) := by
  refine ⟨?_, fun l' c' e => ?_⟩
  · have := ReadsOff.slice h.rd.1 k (by rw [bv_length]; exact hk)
    rw [bv_take]
    exact this
  · injection e with e1 _ e3
    subst e1
    exact h.rd.2 _ _ (by rw [e3])
theorem wpList_makeL {P : Program} {w : World} {ops : Array Oper} {rest : List Oper} {o : Oper} {a : Act} {Q : Exit → Act → World → Prop} (hg : o.guard = none) (t : TypeId) {n : Int} (hop : o.op = Op.makeSlice t (.const (.int .i64 n)) (.const (.int .i64 n)))
    (w' : World) (v : Value) (hr : (Instr.makeSlice t (.int .i64 n) (.int .i64 n)).run P w = .ok v w')
    (hK : wpList P ops Q rest (a.put o.dst v) w') : wpList P ops Q (o :: rest) a w := by
  refine wpList_plain hg fun K hK' => ?_
  have hl : a.eval (.const (.int .i64 n)) = .int .i64 n := rfl
  unfold Oper.wp
  simp [execOp, hop, hl, hr, Result.andThen]
  exact hK' _ _ hK
set_option maxRecDepth 100000 in
set_option maxHeartbeats 4000000 in
theorem msgNames_walk (w : World) (hs : Sents 86 codeVars A w) : Calls Tryd.prog 3 #[] w fun e w' => e = .returned (.bool true) ∧ Below w.heap.size w w' := by
  have HS := Aside.mk hs
  have N1 := Aside.mk (newM_no (A := A) (most := -1) (.inl (by decide)) hs)
  clear hs
  go_enter Tryd.func3, Tryd.ntmps3
  go_upto_region 2 with (first | (go_at_call 9; refine N1.it.mono ?_; clear N1; rintro e w1 ⟨rfl, K1⟩) | fail)
  have N2 := Aside.mk (newM_no (A := A) (most := 1048577) (.inr (by decide)) (HS.it.later K1.it.bel))
  go_upto_region 3 with (first | (go_at_call 9; refine N2.it.mono ?_; clear N2; rintro e w2 ⟨rfl, K2⟩) | fail)
  have N3 := Aside.mk (newM_ok (w := w2) (most := 1048576) (by decide) (fun _ => 0) 1)
  go_upto_region 4 with (first | (go_at_call 9; refine N3.it.mono ?_; clear N3; rintro e w3 ⟨p3, rfl, _, K3⟩) | fail)
  have KA : Aside (Keeps Nowhere w w3) := ⟨(K1.it.trans K2.it).trans K3.it⟩
  have N4 := Aside.mk (lm_start (A := A) (w := w3) (most := 0) (HS.it.later KA.it.bel) (by decide))
  clear K1 K2 K3
  go_upto_region 5 with (first | (go_at_call 9; refine N4.it.mono ?_; clear N4; rintro e w4 ⟨p4, own4, rfl, L4, K4⟩) | fail)
  have KB : Aside (Keeps Nowhere w w4) := ⟨KA.it.trans K4.it⟩
  have CR := Aside.mk (code_sent (HS.it.later KB.it.bel) 1 (by decide) (by decide))
  obtain ⟨w5, run5, M5⟩ := make27 w4 1048576 (by decide)
  have EN5 := Aside.mk (encodeM (A := A) (most := ((1048576 : Nat) : Int)) M5.it.1 (by rw [List.length_replicate]; decide) (HS.it.later (KB.it.trans M5.it.2).bel))
  rw [(encNames 1048576 (by decide)).1, (encNames 1048576 (by decide)).2] at EN5
  go_upto_region 8 with (first | (go_at_call 10; refine CR.it.mono ?_; rintro e w6 ⟨rfl, hw6⟩; rw [hw6]; clear hw6) | fail)
  go_upto_region 9 with (first
    | (refine wpList_makeL rfl 28 rfl w5 _ run5.it ?_)
    | (go_at_call 11; refine EN5.it.mono ?_; clear EN5; rintro e w7 ⟨q7, l7, c7, ev7, rfl, C7, O7, K7⟩)
    | fail)
  obtain rfl := Coded.zero C7.out
  have h7 : Aside (l7 = 1048579 ∧ l7 ≤ c7) := ⟨by
    obtain ⟨_, _, e⟩ := OwnB.shape O7.it
    injection e with _ e _
    have h := O7.it.rd.1.len
    rw [bv_length] at h
    rw [List.length_append, List.length_replicate] at e h
    have e3 : (lenB 1048576).length = 3 := rfl
    rw [e3] at e h
    omega⟩
  have K57 := K7
  have KC : Aside (Keeps Nowhere w w7) := ⟨(KB.it.trans M5.it.2).trans K7.it⟩
  have F7 : Aside (Rd w7 (.slice q7 3 c7) [128, 128, 64]) := ⟨by
    have := O7.it.first (k := 3) (by rw [List.length_append, List.length_replicate]; decide)
    have e : (lenB 1048576 ++ List.replicate 1048576 (0 : Int)).take 3 = [128, 128, 64] := by
      rw [List.take_append_of_le_length (by decide)]; rfl
    rw [e] at this
    exact this⟩
  have L7 := Aside.mk (L4.it.quiet (M5.it.2.trans K7.it))
  obtain ⟨w8, run8, M8⟩ := make27 w7 300 (by decide)
  have EN8 := Aside.mk (encodeM (A := A) (most := ((300 : Nat) : Int)) M8.it.1 (by rw [List.length_replicate]; decide) (HS.it.later (KC.it.trans M8.it.2).bel))
  rw [(encNames 300 (by decide)).1, (encNames 300 (by decide)).2] at EN8
  obtain ⟨hl7, hc7⟩ := h7.it
  subst hl7
  have hq7 : Aside (∀ g, (Value.slice q7 3 c7).ownBlock = some g → w4.heap.size ≤ g ∧ g < w7.heap.size) := ⟨fun g hg => by
    have e : (Value.slice q7 1048579 c7).ownBlock = some g := by cases q7 with | none => simp [Value.ownBlock] at hg | some ad => simpa [Value.ownBlock] using hg
    have h1 := owns_base O7.it g e
    have h2 := owns_lt O7.it g e
    have := M5.it.2.size
    exact ⟨by omega, h2⟩⟩
  clear C7 O7 run5 K7 CR
  go_upto_region 10 with (first
    | (refine wpList_makeL rfl 28 rfl w8 _ run8.it ?_)
    | (go_at_call 11; refine EN8.it.mono ?_; clear EN8; rintro e w9 ⟨q9, l9, c9, ev9, rfl, C9, O9, K9⟩)
    | fail)
  obtain rfl := Coded.zero C9.out
  have K79 : Aside (Keeps Nowhere w7 w9) := ⟨M8.it.2.trans K9.it⟩
  have hc9 : 302 ≤ c9 := by
    have h := O9.it.rd.1.len
    rw [bv_length, List.length_append, List.length_replicate] at h
    have e3 : (lenB 300).length = 2 := rfl
    rw [e3] at h
    omega
  have F9 : Aside (Rd w9 (.slice q9 2 c9) [172, 2]) := ⟨by
    have := O9.it.first (k := 2) (by rw [List.length_append, List.length_replicate]; decide)
    have e : (lenB 300 ++ List.replicate 300 (0 : Int)).take 2 = [172, 2] := by
      rw [List.take_append_of_le_length (by decide)]; rfl
    rw [e] at this
    exact this⟩
  have F79 : Aside (Rd w9 (.slice q7 3 c7) [128, 128, 64]) := ⟨F7.it.later K79.it.bel⟩
  have hl9 : Aside (2 ≤ l9) := ⟨by
    obtain ⟨_, _, e⟩ := OwnB.shape O9.it
    injection e with _ e _
    rw [List.length_append, List.length_replicate] at e
    omega⟩
  have hq9 : Aside (∀ g, (Value.slice q9 2 c9).ownBlock = some g → w4.heap.size ≤ g ∧ g < w9.heap.size) := ⟨fun g hg => by
    have e : (Value.slice q9 l9 c9).ownBlock = some g := by cases q9 with | none => simp [Value.ownBlock] at hg | some ad => simpa [Value.ownBlock] using hg
    have h1 := owns_base O9.it g e
    have h2 := owns_lt O9.it g e
    have := M5.it.2.size
    have := M8.it.2.size
    have := K57.it.size
    exact ⟨by omega, h2⟩⟩
  have K49 : Aside (Keeps Nowhere w4 w9) := ⟨(M5.it.2.trans K57.it).trans K79.it⟩
  have L9 := Aside.mk (L4.it.sn (I := fun _ => False) (Sn.quiet K49.it 7) (fun x => x) (fun x => x) (fun x => x))
  obtain ⟨own9, hown9⟩ : ∃ own9, give own4 w4.heap.size 7 = own9 := ⟨_, rfl⟩
  have R7 : Aside (RdO own9 7 w9 (.slice q7 3 c7) [128, 128, 64]) := ⟨F79.it, fun g hg => ⟨by have := (hq7.it g hg).2; have := K79.it.size; omega, by rw [← hown9]; exact give_new (hq7.it g hg).1⟩⟩
  have R9 : Aside (RdO own9 7 w9 (.slice q9 2 c9) [172, 2]) := ⟨F9.it, fun g hg => ⟨(hq9.it g hg).2, by rw [← hown9]; exact give_new (hq9.it g hg).1⟩⟩
  rw [hown9] at L9
  have FD1 := Aside.mk (lm_feedC L9.it [0, 0] 2 rfl (0, 0) (areBytes27 _ (by decide)) (by decide) #[.int .u8 0, .int .u8 0] rfl _ fx27_3)
  have KD : Aside (Keeps Nowhere w w9) := ⟨KC.it.trans K79.it⟩
  clear C9 O9 F7 run8 M8 K9 hown9 hq7 hq9 F79 F9
  go_upto_region 11 with (first
    | (go_at_call 12; refine FD1.it.mono ?_; clear FD1; rintro e wA ⟨fqA, flA, fcA, evA, ownA, rfl, CA, XA⟩)
    | fail)
  obtain rfl := Coded.zero CA.out
  obtain ⟨_, _, es⟩ := XA.it.2.1.shape
  have hfA : flA = 2 := by injection es
  subst hfA
  have kk : ∀ (W : World) (cs : Obj), Sn (fun _ => False) own9 W (give own9 W.heap.size 3) (W.alloc cs) := fun W cs => Sn.quiet ((Keeps.refl _ _).alloc _) 3
  have RA7 := Aside.mk ((R7.it.sn (kk w9 _) (fun x => x)).sx XA.it.2.2 (by rintro (e | e | e) <;> omega))
  have RA9 := Aside.mk ((R9.it.sn (kk w9 _) (fun x => x)).sx XA.it.2.2 (by rintro (e | e | e) <;> omega))
  have FD2 := Aside.mk (lm_feedC XA.it.1 [1] 1 rfl (0, 0) (areBytes27 _ (by decide)) (by decide) #[.int .u8 1] rfl _ fx27_4)
  clear es CA R7 R9 kk
  go_upto_region 12 with (first
    | (go_at_call 12; refine FD2.it.mono ?_; clear FD2; rintro e wB ⟨fqB, flB, fcB, evB, ownB, rfl, CB, XB⟩)
    | fail)
  have kk : ∀ (W : World) (cs : Obj), Sn (fun _ => False) ownA W (give ownA W.heap.size 3) (W.alloc cs) := fun W cs => Sn.quiet ((Keeps.refl _ _).alloc _) 3
  have RB7 := ((RA7.it.sn (kk wA _) (fun x => x)).sx XB.it.2.2 (by rintro (e | e | e) <;> omega)).1
  have RB9 := ((RA9.it.sn (kk wA _) (fun x => x)).sx XB.it.2.2 (by rintro (e | e | e) <;> omega)).1
  have CV7 : (convert 28 9 (.slice q7 3 c7)).run Tryd.prog wB = .ok (.string ⟨#[128, 128, 64]⟩) wB := rd_conv27 RB7
  have CV9 : (convert 28 9 (.slice q9 2 c9)).run Tryd.prog wB = .ok (.string ⟨#[172, 2]⟩) wB := rd_conv27 RB9
  have CD := Aside.mk (code_of XB.it.1.g.sents CB.out)
  have x1 : (3 : Int) ≤ (c7 : Int) := by omega
  have x2 : (2 : Int) ≤ (c9 : Int) := by omega
  have BB : Aside (Below w.heap.size w wB) := ⟨KA.it.bel.trans (XB.it.1.g.g.bel.mono KA.it.size)⟩
  clear kk RB7 RB9 CB XA XB RA7 RA9
  go_wp2_with (first
    | (go_at_call 10; refine CD.it.mono ?_; rintro e wC ⟨rfl, hwC⟩; rw [hwC]; clear hwC)
    | fail)
  go_ret
  exact ⟨rfl, BB.it⟩
end
end Go.Proofs.YtllioaclnkkhhaaDoor
