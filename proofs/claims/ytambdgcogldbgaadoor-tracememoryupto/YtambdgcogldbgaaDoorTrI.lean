/-
  culvertlaw24.fixed
-/
import Derived.Test.YtambdgcogldbgaaDoorTrH
import Derived.Test.YtambdgcogldbgaaDoorOpenTr
import Derived.Lib.SlBytesConst
import Derived.LaidEql
namespace Go.Proofs.YtambdgcogldbgaaDoor
open Go.RowKit Go.Maps

variable {own own' : Nat → Nat} {i p T mb B : Nat} {w w' w1 W : World} {L : Hs} {I : Nat → Prop} {k : Int} {b : Nat} {v : Value} {r : Rc} {A : Nat → Addr}

theorem rd_conv {x : Value} {ms : List Int} (h : Rd W x ms) : (convert 29 9 x).run Tryd.prog W = .ok (.string (strOf ms)) W := run_bytesStr W 29 9 5 x ms Tryd.underlying29 Tryd.underlying5 Tryd.underlying9 h.holds
theorem rd_const (w : World) (ns : List Int) (fr : Nat × Nat) : Rd (w.alloc (.cells (bv ns).toArray 5 fr)) (.slice (some ⟨w.heap.size, 0, none⟩) ns.length ns.length) ns := by
  have h := reads_mark Nowhere w 5 (bv ns) fr (fun x => x)
  rw [bv_length] at h
  exact ⟨h, fun l c e => by injection e with e; cases e⟩
theorem past_eql (a b : Int) (c d : Bool) (w : World) : (binOp .eql 53 (.agg #[.int .i64 a, .int .i64 b, .bool c, .bool d]) (.agg #[.int .i64 a, .int .i64 b, .bool c, .bool d])).run Tryd.prog w = .ok (.bool true) w := by
  have hst : Tryd.prog.stoodInHeld 53 = false := by kernel_rfl
  have hfo : Tryd.prog.underlying 53 = some (.struct (Tryd.prog.fieldsOf 53)) := by kernel_rfl
  have h := run_equalIn_agg (P := Tryd.prog) (w := w) 9999 53 #[.int .i64 a, .int .i64 b, .bool c, .bool d] #[.int .i64 a, .int .i64 b, .bool c, .bool d] hfo hst
  rw [run_eql_struct, h]
  clear h hst hfo
  simp only [Program.fieldsOf, Tryd.underlying53]
  simp [Op.eqFields, go_sem]
theorem past_neql (a b : Int) (c d : Bool) (w : World) : (binOp .neq 53 (.agg #[.int .i64 a, .int .i64 b, .bool c, .bool d]) (.agg #[.int .i64 a, .int .i64 b, .bool c, .bool d])).run Tryd.prog w = .ok (.bool false) w := by
  have hst : Tryd.prog.stoodInHeld 53 = false := by kernel_rfl
  have hfo : Tryd.prog.underlying 53 = some (.struct (Tryd.prog.fieldsOf 53)) := by kernel_rfl
  have h := run_equalIn_agg (P := Tryd.prog) (w := w) 9999 53 #[.int .i64 a, .int .i64 b, .bool c, .bool d] #[.int .i64 a, .int .i64 b, .bool c, .bool d] hfo hst
  rw [run_neq_struct, h]
  clear h hst hfo
  simp only [Program.fieldsOf, Tryd.underlying53]
  simp [Op.eqFields, go_sem]

abbrev fx1 : Hs := [(7, ⟨[97, 98, 99], 0, false, false⟩)]
abbrev fx2 : Hs := [(7, ⟨[97, 98, 99], 2, false, false⟩)]
theorem fx_text : textT fx2 = [55, 32, 119, 114, 105, 116, 116, 101, 110, 32, 51, 32, 114, 101, 97, 100, 32, 50, 10] := by kernel_rfl
set_option maxRecDepth 100000 in
set_option maxHeartbeats 2000000 in
theorem fixed24 (h : LdT A w) : Calls Tryd.prog 4 #[] w fun e w' => e = .returned (.bool true) ∧ Aside (Keeps Nowhere w w') := by
  have G0 := Aside.mk (OnG.start h.s)
  have HP := Aside.mk h.p
  have N := Aside.mk (newT w (fun _ => 0) 1)
  have z7 : Zw 7 := ⟨by decide, by decide⟩
  have Z7 := Aside.mk z7
  clear h z7
  go_enter Tryd.func4, Tryd.ntmps4
  go_upto_region 4 with (go_at_call 5; refine N.it.mono ?_; rintro e w1 ⟨p, own1, rfl, X1⟩)
  have G1 := Aside.mk (G0.it.sn X1.it.2.2 (fun x => x))
  have T1 := Aside.mk X1.it.1
  clear X1 N
  have cv1 := Lib.run_convert_bytes_const (P := Tryd.prog) w1 29 5 #[.int .u8 97, .int .u8 98, .int .u8 99] 3 3 Tryd.underlying29 Tryd.underlying5
  have K1 : Aside (Keeps Nowhere w1 (w1.alloc (.cells #[.int .u8 97, .int .u8 98, .int .u8 99] 5 (3, 4)))) := ⟨(Keeps.refl _ _).alloc _⟩
  have WR : Aside (Calls Tryd.prog 10 #[ptr p, .int .i64 7, .slice (some ⟨w1.heap.size, 0, none⟩) 3 3] (w1.alloc (.cells #[.int .u8 97, .int .u8 98, .int .u8 99] 5 (3, 4))) fun e w' => ∃ ev own', e = .returned ev ∧ Hid (Coded A ev 0) ∧ Aside (TrO own' 1 w' p 3 fx1 ∧ Sn (fun x => x = 1) own1 (w1.alloc (.cells #[.int .u8 97, .int .u8 98, .int .u8 99] 5 (3, 4))) own' w')) :=
    ⟨wrote_at (ms := [97, 98, 99]) (T1.it.quiet K1.it) Z7.it (G1.it.sents.later K1.it.bel) (rd_const w1 [97, 98, 99] (3, 4)) (by decide) (by decide) (by decide)⟩
  go_upto_region 5 with (first
    | (go_at_call 10; refine WR.it.mono ?_; rintro e w2 ⟨ev2, own2, rfl, C2, X2⟩; have e2 : ev2 = .nilIface := Coded.zero C2.out; subst e2
       have T2 := Aside.mk X2.it.1
       have G2 := Aside.mk ((G1.it.quiet K1.it).sn X2.it.2 (by decide))
       have cv2 := Lib.run_convert_bytes_const (P := Tryd.prog) w2 29 5 #[.int .u8 97, .int .u8 98] 2 2 Tryd.underlying29 Tryd.underlying5
       have K2 : Aside (Keeps Nowhere w2 (w2.alloc (.cells #[.int .u8 97, .int .u8 98] 5 (2, 3)))) := ⟨(Keeps.refl _ _).alloc _⟩
       have GV : Aside (Calls Tryd.prog 12 #[ptr p, .int .i64 7, .slice (some ⟨w2.heap.size, 0, none⟩) 2 2] (w2.alloc (.cells #[.int .u8 97, .int .u8 98] 5 (2, 3))) fun e w' => ∃ ev own', e = .returned ev ∧ Hid (Coded A ev 0) ∧ Aside (TrO own' 1 w' p 3 fx2 ∧ Sn (fun x => x = 1) own2 (w2.alloc (.cells #[.int .u8 97, .int .u8 98] 5 (2, 3))) own' w')) :=
         ⟨gave_at (ms := [97, 98]) (T2.it.quiet K2.it) Z7.it (G2.it.sents.later K2.it.bel) (rd_const w2 [97, 98] (2, 3)) (by decide) (by decide) (by decide)⟩
       clear WR X2 C2)
    | (go_at_call 12; refine GV.it.mono ?_; rintro e w3 ⟨ev3, own3, rfl, C3, X3⟩; have e3 : ev3 = .nilIface := Coded.zero C3.out; subst e3
       have T3 := Aside.mk X3.it.1
       have G3 := Aside.mk ((G2.it.quiet K2.it).sn X3.it.2 (by decide))
       have cv3 := Lib.run_convert_bytes_const (P := Tryd.prog) w3 29 5 #[.int .u8 100] 1 1 Tryd.underlying29 Tryd.underlying5
       have K3 : Aside (Keeps Nowhere w3 (w3.alloc (.cells #[.int .u8 100] 5 (1, 2)))) := ⟨(Keeps.refl _ _).alloc _⟩
       have GW : Aside (Calls Tryd.prog 12 #[ptr p, .int .i64 7, .slice (some ⟨w3.heap.size, 0, none⟩) 1 1] (w3.alloc (.cells #[.int .u8 100] 5 (1, 2))) fun e w' => ∃ ev own', e = .returned ev ∧ Hid (Coded A ev 39) ∧ Aside (TrO own' 1 w' p 3 fx2 ∧ Sn (fun x => x = 1) own3 (w3.alloc (.cells #[.int .u8 100] 5 (1, 2))) own' w')) :=
         ⟨gave_at (ms := [100]) (T3.it.quiet K3.it) Z7.it (G3.it.sents.later K3.it.bel) (rd_const w3 [100] (1, 2)) (by decide) (by decide) (by decide)⟩
       clear GV X3 C3)
    | (go_at_call 12; refine GW.it.mono ?_; rintro e w4 ⟨ev4, own4, rfl, C4, X4⟩; have HC4 := Aside.mk C4.out; clear C4)
    | fail)
  have T4 := Aside.mk X4.it.1
  have G4 := Aside.mk ((G3.it.quiet K3.it).sn X4.it.2 (by decide))
  clear X4 GW cv1 cv2 cv3
  have PS : Aside (Calls Tryd.prog 18 #[ptr p, .int .i64 7] w4 fun e w' => e = .returned (.tuple #[.agg #[.int .i64 3, .int .i64 2, .bool false, .bool false], .bool true]) ∧ Aside (Keeps Nowhere w4 w')) := ⟨past_at T4.it Z7.it⟩
  go_upto_region 6 with (first | (go_at_call 18; refine PS.it.mono ?_; rintro e w5 ⟨rfl, K5⟩) | fail)
  have K6 : Aside (Keeps Nowhere w4 (w5.alloc (.cells #[.int .i64 3, .int .i64 2, .bool false, .bool false] 53))) := ⟨K5.it.alloc _⟩
  obtain ⟨w6, hw6⟩ : ∃ w6, w5.alloc (.cells #[.int .i64 3, .int .i64 2, .bool false, .bool false] 53) = w6 := ⟨_, rfl⟩
  have C6 := Cells.new w5 53 [.int .i64 3, .int .i64 2, .bool false, .bool false]
  have e6 : w5.alloc (.cells [.int .i64 3, .int .i64 2, .bool false, .bool false].toArray 53) = w6 := hw6
  rw [e6] at C6
  rw [hw6] at K6 ⊢
  have G6 := Aside.mk (G4.it.quiet K6.it)
  have T6 := Aside.mk (T4.it.quiet K6.it)
  have d0 : w6.cell? ⟨w5.heap.size, 0, none⟩ = some (.int .i64 3) := by rw [C6.cell]; rfl
  have d1 : w6.cell? ⟨w5.heap.size, 1, none⟩ = some (.int .i64 2) := by rw [C6.cell]; rfl
  have d2 : w6.cell? ⟨w5.heap.size, 2, none⟩ = some (.bool false) := by rw [C6.cell]; rfl
  have d3 : w6.cell? ⟨w5.heap.size, 3, none⟩ = some (.bool false) := by rw [C6.cell]; rfl
  clear hw6 e6 C6
  have CD := Aside.mk (code_of G6.it.sents HC4.it)
  have pe := past_eql 3 2 false false
  have RS : Aside (Calls Tryd.prog 14 #[ptr p, .int .i64 7] w6 fun e w' => ∃ q c, e = .returned (.slice q 1 c) ∧ Aside (w'.ownsRow w6.heap.size 5 1 (.slice q 1 c) 1 (bv [99])) ∧ Aside (Keeps Nowhere w6 w')) := ⟨restH_at T6.it Z7.it (by decide)⟩
  have TX : Aside (∀ W, Keeps Nowhere w6 W → Calls Tryd.prog 20 #[ptr p] W fun e w' => e = .returned (.string ⟨#[55, 32, 119, 114, 105, 116, 116, 101, 110, 32, 51, 32, 114, 101, 97, 100, 32, 50, 10]⟩) ∧ Aside (Keeps Nowhere W w')) := ⟨fun W k => by have t := text_at (T6.it.quiet k) (powT_later HP.it ((Keeps.ofBelow (S := Nowhere) G6.it.g.bel).trans k).bel) (by decide) (by decide); rw [fx_text] at t; exact t⟩
  go_wp2_with (first
    | (go_at_call 19; refine CD.it.mono ?_; rintro e w7 ⟨rfl, hw7⟩; have hw7 := hw7.symm; subst hw7)
    | (go_at_call 14; refine RS.it.mono ?_; rintro e w8 ⟨q8, c8, rfl, R8, K8⟩; have cs : (convert 29 9 (.slice q8 1 c8)).run Tryd.prog w8 = .ok (.string ⟨#[99]⟩) w8 := (rd_conv (ms := [99]) (OwnB.rd (ns := [99]) R8.it)))
    | (go_at_call 20; refine (TX.it _ K8.it).mono ?_; rintro e w9 ⟨rfl, K9⟩)
    | fail)
  go_ret
  exact ⟨rfl, ⟨((Keeps.ofBelow G6.it.g.bel).trans K8.it).trans K9.it⟩⟩
end Go.Proofs.YtambdgcogldbgaaDoor
